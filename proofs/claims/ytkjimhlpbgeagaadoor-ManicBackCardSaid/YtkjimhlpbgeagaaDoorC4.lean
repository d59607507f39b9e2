import Derived.Test.YtkjimhlpbgeagaaDoorC0
import Derived.Test.YtkjimhlpbgeagaaDoorC2
import Derived.Test.YtkjimhlpbgeagaaDoorC3
import Derived.Test.YtkjimhlpbgeagaaDoorC1
/-
  What the functions that a law of this layer reaches answer, part 4. Nothing that was there is written.
-/
namespace Go.Proofs.YtkjimhlpbgeagaaDoor
set_option linter.unusedVariables false
set_option linter.unusedSimpArgs false
section
open Go.RowKit WM
abbrev MS := List Int × Bool
def mfil (k : Nat) (s : MS) : List Int × MS := (s.1.take k ++ List.replicate (k - s.1.length) 0, if k ≤ s.1.length then (s.1.drop k, s.2) else ([], false))
def mnum (most : Int) (s : MS) : Int × MS := match dec s.1 with
 | some (n, k) => if n ≤ most then (n, (s.1.drop k, s.2)) else (0, ([], false))
 | none => (0, ([], false))
def mst (s : MS) : (Int × Int) × MS := match stGet s.1 with
 | some (n, r, k) => ((n, r), (s.1.drop k, s.2))
 | none => ((0, 0), ([], false))
def mwd (s : MS) : Int × MS := (unword (mfil 4 s).1, (mfil 4 s).2)
def mblk (s : MS) : Sg × MS := (⟨(mwd s).1, (mfil 32 (mwd s).2).1⟩, (mfil 32 (mwd s).2).2)
def mrep {α : Type} (f : MS → α × MS) : Nat → MS → List α → List α × MS
 | 0, s, l => (l, s)
 | n + 1, s, l => mrep f n (f s).2 (l ++ [(f s).1])
def nblk (n : Int) : Nat := if n < 24 then 0 else (n / 8).toNat
def ment (s : MS) : En × MS :=
 let a := mfil 1 s
 let b := mst a.2
 let c := mnum 200 b.2
 let d := mfil 32 c.2
 let e := mrep mblk (nblk c.1) d.2 []
 (⟨a.1.getD 0 0, b.1.1, b.1.2, c.1, d.1, e.1⟩, e.2)
def mlin (s : MS) : Ln × MS :=
 let a := mfil 16 s
 let b := mst a.2
 let c := mnum 8 b.2
 let e := mrep ment c.1.toNat c.2 []
 (⟨a.1, b.1.1, b.1.2, e.1⟩, e.2)
def mman (s : MS) : Mn × MS :=
 let a := mfil 32 s
 let c := mnum 10 a.2
 let e := mrep mlin c.1.toNat c.2 []
 (⟨a.1, e.1⟩, e.2)
def sgB (b : Sg) : List Int := word b.wk ++ b.ds
def enB (e : En) : List Int := [e.no] ++ (enc (e.n * 8 + e.r) ++ (enc e.len ++ (e.ds ++ e.bs.flatMap sgB)))
def lnB (x : Ln) : List Int := x.z ++ (enc (x.n * 8 + x.r) ++ (enc x.es.length ++ x.es.flatMap enB))
def mnB (m : Mn) : List Int := m.base ++ (enc m.ls.length ++ m.ls.flatMap lnB)
theorem all_nilM : AllBytes [] := fun z hz => by cases hz
structure Rds {α : Type} (f : MS → α × MS) (B : α → List Int) (wf : α → Prop) : Prop where
 ok : ∀ s : MS, AllBytes s.1 → wf (f s).1 ∧ AllBytes (f s).2.1 ∧ (f s).2.1.length ≤ s.1.length
 got : ∀ zs : List Int, AllBytes zs → (f (zs, true)).2.2 = true → zs = B (f (zs, true)).1 ++ (f (zs, true)).2.1
 no : ∀ zs : List Int, AllBytes zs → (f (zs, false)).2.2 = false
def Puts {α : Type} (f : MS → α × MS) (B : α → List Int) (good : α → Prop) : Prop := ∀ a, good a → ∀ t, f (B a ++ t, true) = (a, (t, true))
def bindR {α β : Type} (f : MS → α × MS) (g : α → MS → β × MS) (s : MS) : (α × β) × MS := (((f s).1, (g (f s).1 (f s).2).1), (g (f s).1 (f s).2).2)
section
variable {α β : Type} {f : MS → α × MS} {B : α → List Int} {wf : α → Prop} {g : α → MS → β × MS} {C : α → β → List Int} {wg : α → β → Prop}
theorem Rds.bind (hf : Rds f B wf) (hg : ∀ a, wf a → Rds (g a) (C a) (wg a)) : Rds (bindR f g) (fun p => B p.1 ++ C p.1 p.2) (fun p => wf p.1 ∧ wg p.1 p.2) := by
 refine ⟨fun s hs => ?_, fun zs hz h => ?_, fun zs hz => ?_⟩
 ·obtain ⟨h1, h2, h3⟩ := hf.ok s hs
  obtain ⟨h4, h5, h6⟩ := (hg _ h1).ok _ h2
  exact ⟨⟨h1, h4⟩, h5, Nat.le_trans h6 h3⟩
 ·obtain ⟨h1, h2, h3⟩ := hf.ok (zs, true) hz
  have h4 := hf.got zs hz
  show zs = (B (f (zs, true)).1 ++ C (f (zs, true)).1 (g (f (zs, true)).1 (f (zs, true)).2).1) ++ (g (f (zs, true)).1 (f (zs, true)).2).2.1
  change (g (f (zs, true)).1 (f (zs, true)).2).2.2 = true at h
  generalize f (zs, true) = x at *
  obtain ⟨a, ys, b⟩ := x
  dsimp only at h1 h2 h4 h ⊢
  cases b with
  | false => rw [(hg a h1).no ys h2] at h; cases h
  | true => rw [List.append_assoc, ← (hg a h1).got ys h2 h]; exact h4 rfl
 ·obtain ⟨h1, h2, h3⟩ := hf.ok (zs, false) hz
  have h4 := hf.no zs hz
  show (g (f (zs, false)).1 (f (zs, false)).2).2.2 = false
  generalize f (zs, false) = x at *
  obtain ⟨a, ys, b⟩ := x
  dsimp only at h1 h2 h4 ⊢
  subst h4
  exact (hg a h1).no ys h2
theorem Rds.map {γ : Type} {F : MS → γ × MS} {D : γ → List Int} {wh : γ → Prop} (e : α → γ) (hf : Rds f B wf) (hF : ∀ s, F s = (e (f s).1, (f s).2)) (hB : ∀ a, wf a → D (e a) = B a) (hw : ∀ a, wf a → wh (e a)) : Rds F D wh := by
 refine ⟨fun s hs => ?_, fun zs hz h => ?_, fun zs hz => ?_⟩
 ·rw [hF]; exact ⟨hw _ (hf.ok s hs).1, (hf.ok s hs).2⟩
 ·rw [hF] at h ⊢; dsimp only at h ⊢; rw [hB _ (hf.ok _ hz).1]; exact hf.got zs hz h
 ·rw [hF]; exact hf.no zs hz
theorem mrep_len : ∀ (n : Nat) (s : MS) (l : List α), (mrep f n s l).1.length = l.length + n
 | 0, _, _ => rfl
 | n + 1, s, l => by rw [mrep, mrep_len n, List.length_append, List.length_singleton]; omega
theorem mrep_ok (hf : Rds f B wf) : ∀ (n : Nat) (s : MS) (l : List α), AllBytes s.1 → (∀ a ∈ l, wf a) → (∀ a ∈ (mrep f n s l).1, wf a) ∧ AllBytes (mrep f n s l).2.1 ∧ (mrep f n s l).2.1.length ≤ s.1.length
 | 0, s, l, hs, hl => ⟨hl, hs, Nat.le_refl _⟩
 | n + 1, s, l, hs, hl => by
  obtain ⟨h1, h2, h3⟩ := hf.ok s hs
  obtain ⟨h4, h5, h6⟩ := mrep_ok hf n (f s).2 (l ++ [(f s).1]) h2 (fun a ha => (List.mem_append.1 ha).elim (hl a) (fun h => by rw [List.mem_singleton.1 h]; exact h1))
  exact ⟨h4, h5, Nat.le_trans h6 h3⟩
theorem mrep_no (hf : Rds f B wf) : ∀ (n : Nat) (zs : List Int) (l : List α), AllBytes zs → (mrep f n (zs, false) l).2.2 = false
 | 0, _, _, _ => rfl
 | n + 1, zs, l, hz => by
  have h1 := hf.no zs hz
  have h2 := (hf.ok (zs, false) hz).2.1
  rw [mrep]
  generalize f (zs, false) = x at *
  obtain ⟨a, ys, b⟩ := x
  dsimp only at h1 h2 ⊢
  subst h1
  exact mrep_no hf n ys _ h2
theorem mrep_got (hf : Rds f B wf) : ∀ (n : Nat) (zs : List Int) (l : List α), AllBytes zs → (mrep f n (zs, true) l).2.2 = true → ∃ k, (mrep f n (zs, true) l).1 = l ++ k ∧ zs = k.flatMap B ++ (mrep f n (zs, true) l).2.1
 | 0, zs, l, _, _ => ⟨[], (List.append_nil l).symm, rfl⟩
 | n + 1, zs, l, hz, h => by
  have h1 := hf.got zs hz
  have h2 := (hf.ok (zs, true) hz).2.1
  rw [mrep] at h ⊢
  generalize f (zs, true) = x at *
  obtain ⟨a, ys, b⟩ := x
  dsimp only at h h1 h2 ⊢
  cases b with
  | false => rw [mrep_no hf n ys _ h2] at h; cases h
  | true =>
   obtain ⟨k, h3, h4⟩ := mrep_got hf n ys _ h2 h
   refine ⟨a :: k, by rw [h3, List.append_assoc]; rfl, ?_⟩
   rw [List.flatMap_cons, List.append_assoc, ← h4]
   exact h1 rfl
theorem Rds.rep (hf : Rds f B wf) (n : Nat) : Rds (fun s => mrep f n s []) (fun l => l.flatMap B) (fun l => l.length = n ∧ ∀ a ∈ l, wf a) := by
 refine ⟨fun s hs => ?_, fun zs hz h => ?_, fun zs hz => mrep_no hf n zs _ hz⟩
 ·obtain ⟨h1, h2, h3⟩ := mrep_ok hf n s [] hs (fun a ha => by cases ha)
  exact ⟨⟨(mrep_len n s []).trans (Nat.zero_add n), h1⟩, h2, h3⟩
 ·obtain ⟨k, h1, h2⟩ := mrep_got hf n zs [] hz h
  rw [List.nil_append] at h1
  rw [h1]
  exact h2
theorem mrep_put {gf : α → Prop} (hf : Puts f B gf) : ∀ (l k : List α) (t : List Int), (∀ a ∈ l, gf a) → mrep f l.length (l.flatMap B ++ t, true) k = (k ++ l, (t, true))
 | [], k, t, _ => by rw [List.append_nil]; rfl
 | a :: l, k, t, h => by
  rw [List.length_cons, mrep, List.flatMap_cons, List.append_assoc, hf a (h a List.mem_cons_self)]
  dsimp only
  rw [mrep_put hf l _ t (fun b hb => h b (List.mem_cons_of_mem _ hb)), List.append_assoc]
  rfl
end
theorem mfil_put (k : Nat) (l t : List Int) (b : Bool) (h : l.length = k) : mfil k (l ++ t, b) = (l, (t, b)) := by
 unfold mfil
 dsimp only
 rw [List.take_left' h, List.drop_left' h, List.length_append, if_pos (by omega), show k - (l.length + t.length) = 0 by omega, List.replicate_zero, List.append_nil]
theorem mfil_len (k : Nat) (s : MS) : (mfil k s).1.length = k := by
 unfold mfil
 rw [List.length_append, List.length_take, List.length_replicate]
 omega
theorem mfil_rds (k : Nat) : Rds (mfil k) id (fun l => l.length = k ∧ AllBytes l) := by
 refine ⟨fun s hs => ⟨⟨mfil_len k s, ?_⟩, ?_⟩, fun zs hz h => ?_, fun zs hz => ?_⟩
 ·refine all_append (all_take hs k) (fun z hz => ?_)
  rw [(List.mem_replicate.1 hz).2]
  omega
 ·unfold mfil
  dsimp only
  split
  ·exact ⟨all_drop hs k, by rw [List.length_drop]; omega⟩
  ·exact ⟨all_nilM, Nat.zero_le _⟩
 ·unfold mfil at h ⊢
  dsimp only at h ⊢
  split at h
  ·rename_i hk
   rw [if_pos hk, show k - zs.length = 0 by omega, List.replicate_zero, List.append_nil]
   exact (List.take_append_drop k zs).symm
  ·cases h
 ·unfold mfil
  dsimp only
  split <;> rfl
theorem mnum_rds (m : Int) (hm : 0 ≤ m) : Rds (mnum m) enc (fun n => 0 ≤ n ∧ n ≤ m) := by
 refine ⟨fun s hs => ?_, fun zs hz h => ?_, fun zs hz => ?_⟩
 ·unfold mnum
  cases hd : dec s.1 with
  | none => exact ⟨⟨Int.le_refl _, hm⟩, all_nilM, Nat.zero_le _⟩
  | some x =>
   obtain ⟨n, k⟩ := x
   obtain ⟨d1, d2, d3, d4, d5⟩ := dec_some hs hd
   dsimp only
   split
   ·rename_i h
    exact ⟨⟨d4, h⟩, all_drop hs k, by rw [List.length_drop]; omega⟩
   ·exact ⟨⟨Int.le_refl _, hm⟩, all_nilM, Nat.zero_le _⟩
 ·unfold mnum at h ⊢
  dsimp only at h ⊢
  cases hd : dec zs with
  | none => rw [hd] at h; cases h
  | some x =>
   obtain ⟨n, k⟩ := x
   obtain ⟨d1, d2, d3, d4, d5⟩ := dec_some hz hd
   rw [hd] at h
   dsimp only at h ⊢
   split at h
   ·rename_i hle
    rw [if_pos hle]
    dsimp only
    rw [d3]
    exact (List.take_append_drop k zs).symm
   ·cases h
 ·unfold mnum
  dsimp only
  cases dec zs with
  | none => rfl
  | some x =>
   dsimp only
   split <;> rfl
theorem mnum_puts (m : Int) (hm : m ≤ 1000) : Puts (mnum m) enc (fun n => 0 ≤ n ∧ n ≤ m) := fun n hn t => by
 unfold mnum
 dsimp only
 rw [dec_enc n t hn.1 (by omega)]
 dsimp only
 rw [if_pos hn.2, List.drop_left]
theorem may_zero : may 0 0 = true := by decide
def stE (s : Int × Int) : List Int := enc (s.1 * 8 + s.2)
theorem mst_rds : Rds mst stE (fun s => may s.1 s.2 = true) := by
 refine ⟨fun s hs => ?_, fun zs hz h => ?_, fun zs hz => ?_⟩
 ·unfold mst
  cases hd : stGet s.1 with
  | none => exact ⟨may_zero, all_nilM, Nat.zero_le _⟩
  | some x =>
   obtain ⟨n, r, k⟩ := x
   obtain ⟨d1, d2, d3⟩ := stGet_some hs hd
   exact ⟨d1, all_drop hs k, by dsimp only; rw [List.length_drop]; omega⟩
 ·unfold mst at h ⊢
  dsimp only at h ⊢
  cases hd : stGet zs with
  | none => rw [hd] at h; cases h
  | some x =>
   obtain ⟨n, r, k⟩ := x
   obtain ⟨d1, d2, d3⟩ := stGet_some hz hd
   dsimp only
   rw [stE, d3]
   exact (List.take_append_drop k zs).symm
 ·unfold mst
  dsimp only
  cases stGet zs <;> rfl
theorem mst_puts : Puts mst stE (fun s => may s.1 s.2 = true) := fun s hs t => by
 unfold mst stE
 dsimp only
 rw [stGet_put t hs]
 dsimp only
 rw [List.drop_left]
theorem unword_range {l : List Int} (h : AllBytes l) : 0 ≤ unword l ∧ unword l ≤ 4294967295 := by
 have h0 := all_get h 0
 have h1 := all_get h 1
 have h2 := all_get h 2
 have h3 := all_get h 3
 unfold unword
 omega
theorem word_unwordM {l : List Int} (h : AllBytes l) (hl : l.length = 4) : word (unword l) = l := by
 have h0 := all_get h 0
 have h1 := all_get h 1
 have h2 := all_get h 2
 have h3 := all_get h 3
 match l, hl with
 | [a, b, c, d], _ =>
  simp only [List.getD_cons_zero, List.getD_cons_succ] at h0 h1 h2 h3
  unfold word unword
  simp only [List.getD_cons_zero, List.getD_cons_succ]
  rw [show ((a * 256 + b) * 256 + c) * 256 + d = a * 16777216 + b * 65536 + c * 256 + d by omega]
  congr 1
  ·omega
  ·congr 1
   ·omega
   ·congr 1
    ·omega
    ·congr 1
     omega
theorem unword_wordM {n : Int} (h0 : 0 ≤ n) (h1 : n ≤ 4294967295) : unword (word n) = n := by
 unfold word unword
 simp only [List.getD_cons_zero, List.getD_cons_succ]
 omega
theorem mblk_rds : Rds mblk sgB Sg.Ok := by
 refine Rds.map (f := bindR (mfil 4) (fun _ => mfil 32)) (e := fun p => ⟨unword p.1, p.2⟩) ((mfil_rds 4).bind (fun _ _ => mfil_rds 32)) (fun s => rfl) (fun p hp => ?_) (fun p hp => ?_)
 ·unfold sgB
  dsimp only
  rw [word_unwordM hp.1.2 hp.1.1]
  rfl
 ·exact ⟨(unword_range hp.1.2).1, (unword_range hp.1.2).2, hp.2.1, hp.2.2⟩
theorem mblk_puts : Puts mblk sgB Sg.Ok := fun c hc t => by
 obtain ⟨h0, h1, h2, h3⟩ := hc
 have e1 := mfil_put 4 (word c.wk) (c.ds ++ t) true rfl
 have e2 := mfil_put 32 c.ds t true h2
 simp only [mblk, mwd, sgB, List.append_assoc, e1, e2, unword_wordM h0 h1]
def enWf (e : En) : Prop := 0 ≤ e.no ∧ e.no ≤ 255 ∧ may e.n e.r = true ∧ 0 ≤ e.len ∧ e.len ≤ 200 ∧ e.ds.length = 32 ∧ AllBytes e.ds ∧ e.bs.length = nblk e.len ∧ ∀ b ∈ e.bs, b.Ok
abbrev EnPq := List Int × ((Int × Int) × (Int × (List Int × List Sg)))
def enPq (p : EnPq) : En := ⟨p.1.getD 0 0, p.2.1.1, p.2.1.2, p.2.2.1, p.2.2.2.1, p.2.2.2.2⟩
def mentB : MS → EnPq × MS := bindR (mfil 1) (fun _ => bindR mst (fun _ => bindR (mnum 200) (fun c => bindR (mfil 32) (fun _ => fun s => mrep mblk (nblk c) s []))))
theorem one_getD {l : List Int} (h : l.length = 1) : [l.getD 0 0] = l := by
 match l, h with
 | [a], _ => rfl
theorem ment_rds : Rds ment enB enWf := by
 refine Rds.map (f := mentB) (e := enPq) ((mfil_rds 1).bind (fun _ _ => mst_rds.bind (fun _ _ => (mnum_rds 200 (by decide)).bind (fun c _ => (mfil_rds 32).bind (fun _ _ => mblk_rds.rep (nblk c)))))) (fun s => rfl) (fun p hp => ?_) (fun p hp => ?_)
 ·unfold enB enPq
  dsimp only
  rw [one_getD hp.1.1]
  rfl
 ·have h0 := all_get hp.1.2 0
  exact ⟨h0.1, h0.2, hp.2.1, hp.2.2.1.1, hp.2.2.1.2, hp.2.2.2.1.1, hp.2.2.2.1.2, hp.2.2.2.2.1, hp.2.2.2.2.2⟩
theorem ment_puts : Puts ment enB enWf := fun c hc t => by
 obtain ⟨h0, h1, h2, h3, h4, h5, h6, h7, h8⟩ := hc
 have e1 := mfil_put 1 [c.no] (enc (c.n * 8 + c.r) ++ (enc c.len ++ (c.ds ++ (c.bs.flatMap sgB ++ t)))) true rfl
 have e2 := mst_puts (c.n, c.r) h2 (enc c.len ++ (c.ds ++ (c.bs.flatMap sgB ++ t)))
 have e3 := mnum_puts 200 (by decide) c.len ⟨h3, h4⟩ (c.ds ++ (c.bs.flatMap sgB ++ t))
 have e4 := mfil_put 32 c.ds (c.bs.flatMap sgB ++ t) true h5
 have e5 := mrep_put mblk_puts c.bs [] t h8
 unfold stE at e2
 simp only at e2
 simp only [ment, enB, List.append_assoc, e1, e2, e3, e4, ← h7, e5]
 rfl
def lnWf (x : Ln) : Prop := x.z.length = 16 ∧ AllBytes x.z ∧ may x.n x.r = true ∧ x.es.length ≤ 8 ∧ ∀ e ∈ x.es, enWf e
abbrev LnPq := List Int × ((Int × Int) × (Int × List En))
def lnPq (p : LnPq) : Ln := ⟨p.1, p.2.1.1, p.2.1.2, p.2.2.2⟩
def mlinB : MS → LnPq × MS := bindR (mfil 16) (fun _ => bindR mst (fun _ => bindR (mnum 8) (fun c => fun s => mrep ment c.toNat s [])))
theorem mlin_rds : Rds mlin lnB lnWf := by
 refine Rds.map (f := mlinB) (e := lnPq) ((mfil_rds 16).bind (fun _ _ => mst_rds.bind (fun _ _ => (mnum_rds 8 (by decide)).bind (fun c _ => ment_rds.rep c.toNat)))) (fun s => rfl) (fun p hp => ?_) (fun p hp => ?_)
 ·obtain ⟨a, b, c, l⟩ := p
  have h := hp.2.2.2.1
  have h0 := hp.2.2.1.1
  dsimp only at h h0
  unfold lnB lnPq
  dsimp only
  rw [show (l.length : Int) = c by omega]
  rfl
 ·obtain ⟨a, b, c, l⟩ := p
  have h := hp.2.2.2.1
  have h0 := hp.2.2.1.2
  dsimp only at h h0
  exact ⟨hp.1.1, hp.1.2, hp.2.1, by show l.length ≤ 8; omega, hp.2.2.2.2⟩
theorem mlin_puts : Puts mlin lnB lnWf := fun c hc t => by
 obtain ⟨h0, h1, h2, h3, h4⟩ := hc
 have e1 := mfil_put 16 c.z (enc (c.n * 8 + c.r) ++ (enc c.es.length ++ (c.es.flatMap enB ++ t))) true h0
 have e2 := mst_puts (c.n, c.r) h2 (enc c.es.length ++ (c.es.flatMap enB ++ t))
 have e3 := mnum_puts 8 (by decide) c.es.length ⟨by omega, by omega⟩ (c.es.flatMap enB ++ t)
 have e5 := mrep_put ment_puts c.es [] t h4
 unfold stE at e2
 simp only at e2
 simp only [mlin, lnB, List.append_assoc, e1, e2, e3, Int.toNat_natCast, e5]
 rfl
def mnWf (m : Mn) : Prop := m.base.length = 32 ∧ AllBytes m.base ∧ m.ls.length ≤ 10 ∧ ∀ x ∈ m.ls, lnWf x
abbrev MnPq := List Int × (Int × List Ln)
def mnPq (p : MnPq) : Mn := ⟨p.1, p.2.2⟩
def mmanB : MS → MnPq × MS := bindR (mfil 32) (fun _ => bindR (mnum 10) (fun c => fun s => mrep mlin c.toNat s []))
theorem mman_rds : Rds mman mnB mnWf := by
 refine Rds.map (f := mmanB) (e := mnPq) ((mfil_rds 32).bind (fun _ _ => (mnum_rds 10 (by decide)).bind (fun c _ => mlin_rds.rep c.toNat))) (fun s => rfl) (fun p hp => ?_) (fun p hp => ?_)
 ·obtain ⟨a, c, l⟩ := p
  have h := hp.2.2.1
  have h0 := hp.2.1.1
  dsimp only at h h0
  unfold mnB mnPq
  dsimp only
  rw [show (l.length : Int) = c by omega]
  rfl
 ·obtain ⟨a, c, l⟩ := p
  have h := hp.2.2.1
  have h0 := hp.2.1.2
  dsimp only at h h0
  exact ⟨hp.1.1, hp.1.2, by show l.length ≤ 10; omega, hp.2.2.2⟩
theorem mman_puts : Puts mman mnB mnWf := fun c hc t => by
 obtain ⟨h0, h1, h2, h3⟩ := hc
 have e1 := mfil_put 32 c.base (enc c.ls.length ++ (c.ls.flatMap lnB ++ t)) true h0
 have e3 := mnum_puts 10 (by decide) c.ls.length ⟨by omega, by omega⟩ (c.ls.flatMap lnB ++ t)
 have e5 := mrep_put mlin_puts c.ls [] t h3
 simp only [mman, mnB, List.append_assoc, e1, e3, Int.toNat_natCast, e5]
 rfl
def mnGood (m : Mn) : Prop := m.base.length = 32 ∧ AllBytes m.base ∧ ∀ x ∈ m.ls, x.z.length = 16 ∧ AllBytes x.z ∧ ∀ e ∈ x.es, e.ds.length = 32 ∧ AllBytes e.ds ∧ ∀ b ∈ e.bs, b.Ok
theorem enOk_wf {n r last : Int} {e : En} (h : enOk n r last e = true) (hl : -1 ≤ last) (hd : e.ds.length = 32) (ha : AllBytes e.ds) (hb : ∀ b ∈ e.bs, b.Ok) : enWf e := by
 unfold enOk at h
 simp only [Bool.and_eq_true, decide_eq_true_eq] at h
 obtain ⟨⟨⟨h1, h2⟩, h3⟩, h4⟩ := h
 refine ⟨by omega, by omega, h1, h3.2.2.1, h3.2.2.2, hd, ha, ?_, hb⟩
 unfold nblk
 split at h4
 ·rename_i h5
  rw [if_pos h5]
  exact of_decide_eq_true h4
 ·rename_i h5
  rw [if_neg h5]
  have h6 := of_decide_eq_true h4
  omega
theorem esOk_wf {n r : Int} : ∀ {es : List En} {last : Int}, esOk n r last es = true → -1 ≤ last → (∀ e ∈ es, e.ds.length = 32 ∧ AllBytes e.ds ∧ ∀ b ∈ e.bs, b.Ok) → (∀ e ∈ es, enWf e) ∧ ((es.length : Int) ≤ 7 - last ∨ es = [])
 | [], _, _, _, _ => ⟨fun e he => (by cases he), .inr rfl⟩
 | e :: es, last, h, hl, hg => by
  rw [esOk, Bool.and_eq_true] at h
  have h1 := h.1
  obtain ⟨g1, g2, g3⟩ := hg e List.mem_cons_self
  have hw := enOk_wf h.1 hl g1 g2 g3
  have h9 : last < e.no ∧ e.no < 8 := by
   unfold enOk at h1
   simp only [Bool.and_eq_true, decide_eq_true_eq] at h1
   omega
  obtain ⟨k1, k2⟩ := esOk_wf h.2 (by omega) (fun e' he' => hg e' (List.mem_cons_of_mem _ he'))
  refine ⟨fun e' he' => ?_, .inl ?_⟩
  ·rcases List.mem_cons.1 he' with rfl | h8
   ·exact hw
   ·exact k1 e' h8
  ·rw [List.length_cons]
   rcases k2 with k2 | rfl
   ·omega
   ·simp only [List.length_nil]; omega
theorem lsOk_wf : ∀ {ls : List Ln} {p : Option (List Int)}, lsOk p ls = true → (∀ x ∈ ls, x.z.length = 16 ∧ AllBytes x.z ∧ ∀ e ∈ x.es, e.ds.length = 32 ∧ AllBytes e.ds ∧ ∀ b ∈ e.bs, b.Ok) → ∀ x ∈ ls, lnWf x
 | [], _, _, _, x, hx => by cases hx
 | y :: ls, p, h, hg, x, hx => by
  rw [lsOk, Bool.and_eq_true, Bool.and_eq_true] at h
  obtain ⟨⟨h1, h2⟩, h3⟩ := h
  rcases List.mem_cons.1 hx with rfl | h8
  ·obtain ⟨g1, g2, g3⟩ := hg x List.mem_cons_self
   unfold lnOk at h1
   rw [Bool.and_eq_true, Bool.and_eq_true] at h1
   obtain ⟨k1, k2⟩ := esOk_wf h1.2 (Int.le_refl _) g3
   refine ⟨g1, g2, h1.1.1, ?_, k1⟩
   rcases k2 with k2 | k2
   ·omega
   ·rw [k2]; exact Nat.zero_le _
  ·exact lsOk_wf h3 (fun y hy => hg y (List.mem_cons_of_mem _ hy)) x h8
theorem mmay_wf {m : Mn} (h : mmay m = true) (hg : mnGood m) : mnWf m := by
 unfold mmay at h
 rw [Bool.and_eq_true, decide_eq_true_eq] at h
 exact ⟨hg.1, hg.2.1, h.2, lsOk_wf h.1 hg.2.2⟩
theorem flat_bytesM {α : Type} {B : α → List Int} : ∀ {l : List α}, (∀ a ∈ l, AllBytes (B a)) → AllBytes (l.flatMap B)
 | [], _ => all_nilM
 | a :: l, h => by rw [List.flatMap_cons]; exact all_append (h a List.mem_cons_self) (flat_bytesM fun b hb => h b (List.mem_cons_of_mem _ hb))
theorem flat_most {α : Type} {B : α → List Int} {k : Nat} : ∀ {l : List α}, (∀ a ∈ l, (B a).length ≤ k) → (l.flatMap B).length ≤ l.length * k
 | [], _ => Nat.zero_le _
 | a :: l, h => by
  have h1 := h a List.mem_cons_self
  have h2 := flat_most (l := l) fun b hb => h b (List.mem_cons_of_mem _ hb)
  rw [List.flatMap_cons, List.length_append, List.length_cons, Nat.succ_mul]
  omega
theorem sgB_ok {b : Sg} (h : b.Ok) : AllBytes (sgB b) ∧ (sgB b).length = 36 := ⟨all_append (word_bytes h.1 h.2.1) h.2.2.2, by rw [sgB, List.length_append, word_len, h.2.2.1]⟩
theorem enB_ok {e : En} (h : enWf e) : AllBytes (enB e) ∧ (enB e).length ≤ 953 := by
 obtain ⟨h0, h1, h2, h3, h4, h5, h6, h7, h8⟩ := h
 constructor
 ·refine all_append (fun z hz => ?_) (all_append (enc_bytes _) (all_append (enc_bytes _) (all_append h6 (flat_bytesM fun b hb => (sgB_ok (h8 b hb)).1))))
  rw [List.mem_singleton.1 hz]
  omega
 ·have k1 := enc_len (e.n * 8 + e.r)
  have k2 := enc_len e.len
  have k3 := flat_most (B := sgB) (k := 36) (l := e.bs) fun b hb => Nat.le_of_eq (sgB_ok (h8 b hb)).2
  have k4 : e.bs.length ≤ 25 := by
   rw [h7]
   unfold nblk
   split <;> omega
  have k5 := Nat.mul_le_mul_right 36 k4
  unfold enB
  simp only [List.length_append, List.length_singleton, h5]
  omega
theorem lnB_ok {x : Ln} (h : lnWf x) : AllBytes (lnB x) ∧ (lnB x).length ≤ 7660 := by
 obtain ⟨h0, h1, h2, h3, h4⟩ := h
 constructor
 ·exact all_append h1 (all_append (enc_bytes _) (all_append (enc_bytes _) (flat_bytesM fun e he => (enB_ok (h4 e he)).1)))
 ·have k1 := enc_len (x.n * 8 + x.r)
  have k2 := enc_len x.es.length
  have k3 := flat_most (B := enB) (k := 953) (l := x.es) fun e he => (enB_ok (h4 e he)).2
  have k5 := Nat.mul_le_mul_right 953 h3
  unfold lnB
  simp only [List.length_append, h0]
  omega
theorem mnB_ok {m : Mn} (h : mnWf m) : AllBytes (mnB m) ∧ (mnB m).length ≤ 100000 := by
 obtain ⟨h0, h1, h3, h4⟩ := h
 constructor
 ·exact all_append h1 (all_append (enc_bytes _) (flat_bytesM fun e he => (lnB_ok (h4 e he)).1))
 ·have k2 := enc_len m.ls.length
  have k3 := flat_most (B := lnB) (k := 7660) (l := m.ls) fun e he => (lnB_ok (h4 e he)).2
  have k5 := Nat.mul_le_mul_right 7660 h3
  unfold mnB
  simp only [List.length_append, h0]
  omega
def mnZ : Mn := ⟨z32m, []⟩
def mgetB (x : Mn × MS) : Mn × Int := if x.2.2 = true ∧ x.2.1 = [] then (if mmay x.1 then (x.1, 0) else (mnZ, 1)) else (mnZ, 2)
def mget (zs : List Int) : Mn × Int := match opn zs with
 | .form => (mnZ, 2)
 | .check => (mnZ, 3)
 | .ok k p n => if k = 1 ∧ n = zs.length then mgetB (mman (p, true)) else (mnZ, 2)
theorem mgetB_put {m : Mn} (h : mmay m = true) (hw : mnWf m) : mgetB (mman (mnB m, true)) = (m, 0) := by
 have h1 := mman_puts m hw []
 rw [List.append_nil] at h1
 rw [h1]
 unfold mgetB
 rw [if_pos ⟨rfl, rfl⟩, if_pos h]
theorem mget_put {m : Mn} (h : mmay m = true) (hw : mnWf m) : mget (packL 1 (mnB m)) = (m, 0) := by
 have h1 := opn_pack 1 (mnB m) [] (by decide) (mnB_ok hw).2
 rw [List.append_nil] at h1
 unfold mget
 rw [h1]
 dsimp only
 rw [if_pos ⟨rfl, rfl⟩]
 exact mgetB_put h hw
theorem mgetB_some {x : Mn × MS} (h : (mgetB x).2 = 0) : x.2.2 = true ∧ x.2.1 = [] ∧ mmay x.1 = true ∧ mgetB x = (x.1, 0) := by
 unfold mgetB at h ⊢
 split at h
 ·rename_i h1
  rw [if_pos h1]
  split at h
  ·rename_i h2
   rw [if_pos h2]
   exact ⟨h1.1, h1.2, h2, rfl⟩
  ·cases h
 ·cases h
theorem mgetB_err {x : Mn × MS} (h : (mgetB x).2 ≠ 0) : (mgetB x).1 = mnZ := by
 unfold mgetB at h ⊢
 split
 ·rename_i h1
  rw [if_pos h1] at h
  split
  ·rename_i h2
   rw [if_pos h2] at h
   exact absurd rfl h
  ·rfl
 ·rfl
theorem mget_err {zs : List Int} (h : (mget zs).2 ≠ 0) : (mget zs).1 = mnZ := by
 unfold mget at h ⊢
 cases ho : opn zs with
 | form => rfl
 | check => rfl
 | ok k p n =>
  rw [ho] at h
  dsimp only at h ⊢
  split
  ·rename_i h1
   rw [if_pos h1] at h
   exact mgetB_err h
  ·rfl
theorem mget_some {zs : List Int} (hb : AllBytes zs) (h : (mget zs).2 = 0) : mmay (mget zs).1 = true ∧ mnWf (mget zs).1 ∧ packL 1 (mnB (mget zs).1) = zs := by
 unfold mget at h ⊢
 cases ho : opn zs with
 | form => rw [ho] at h; cases h
 | check => rw [ho] at h; cases h
 | ok k p n =>
  rw [ho] at h
  dsimp only at h ⊢
  split at h
  ·rename_i h1
   obtain ⟨rfl, rfl⟩ := h1
   rw [if_pos ⟨rfl, rfl⟩]
   obtain ⟨o1, o2, o3, o4, o5, o6⟩ := opn_ok hb ho
   obtain ⟨g1, g2, g3, g4⟩ := mgetB_some h
   rw [g4]
   have r1 := mman_rds.got p o6 g1
   rw [g2, List.append_nil] at r1
   refine ⟨g3, (mman_rds.ok (p, true) o6).1, ?_⟩
   dsimp only
   rw [← r1, o5, List.take_length]
  ·cases h
theorem mget_more {m : Mn} (hw : mnWf m) (c : Int) : mget (packL 1 (mnB m) ++ [c]) = (mnZ, 2) := by
 unfold mget
 rw [opn_pack 1 (mnB m) [c] (by decide) (mnB_ok hw).2]
 dsimp only
 rw [if_neg (fun h => by have := h.2; rw [List.length_append, List.length_singleton] at this; omega)]
theorem mget_less {m : Mn} (hw : mnWf m) {i : Nat} (hi : i < (packL 1 (mnB m)).length) : mget ((packL 1 (mnB m)).take i) = (mnZ, 2) := by
 unfold mget
 rw [opn_cut (by decide) (mnB_ok hw).2 hi]
theorem enc_short {n : Int} (h0 : 0 ≤ n) (h1 : n < 2097152) : (enc n).length ≤ 3 := by
 unfold enc
 have h2 : encH 9 (n / 128) = encH 2 (n / 128) := encH_more 2 9 (n / 128) (by omega) (by omega) (by decide)
 rw [List.length_append, h2, List.length_singleton]
 have := encH_len 2 (n / 128)
 omega
theorem mget_one {m : Mn} (hw : mnWf m) {i : Nat} {c : Int} (hc : 0 ≤ c ∧ c ≤ 255) (hi : i < (packL 1 (mnB m)).length) (hne : (packL 1 (mnB m)).getD i 0 ≠ c) (hat : i = 0 ∨ 4 ≤ i) : (mget ((packL 1 (mnB m)).set i c)).2 = 3 ∨ i = 0 ∧ (mget ((packL 1 (mnB m)).set i c)).2 = 2 := by
 have hk := mnB_ok hw
 have he := enc_short (n := (mnB m).length) (by omega) (by omega)
 have hp := pack_len 1 (mnB m)
 have ho := opn_one (k := 1) (by decide) (by decide) hk.1 hk.2 hc hi hne (by omega)
 unfold mget
 rcases ho with ho | ⟨h0, ho⟩
 ·rw [ho]; exact .inl rfl
 ·rw [ho]; exact .inr ⟨h0, rfl⟩
theorem mput_inj {m n : Mn} (h1 : mmay m = true) (h2 : mmay n = true) (w1 : mnWf m) (w2 : mnWf n) (h : packL 1 (mnB m) = packL 1 (mnB n)) : m = n := by
 have e1 := mget_put h1 w1
 rw [h, mget_put h2 w2] at e1
 exact (Prod.mk.inj e1).1.symm
theorem mput_least {m : Mn} (hw : mnWf m) : 39 ≤ (packL 1 (mnB m)).length := by
 have hp := pack_len 1 (mnB m)
 have h1 := enc_len (mnB m).length
 have h2 := enc_len m.ls.length
 have h3 : (mnB m).length = 32 + ((enc m.ls.length).length + (m.ls.flatMap lnB).length) := by unfold mnB; rw [List.length_append, List.length_append, hw.1]
 omega
end
end Go.Proofs.YtkjimhlpbgeagaaDoor
