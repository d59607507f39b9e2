import Derived.Test.YtnencoainacpoaaDoorGDlM
import Derived.Test.YtnencoainacpoaaDoorDlBase
import Derived.Test.YtnencoainacpoaaDoorGRl
import Derived.Laws.Tables
import Derived.Test.YtnencoainacpoaaDoorGDlP
import Derived.BigQuiet
import Derived.Test.YtnencoainacpoaaDoorDlRefMk
section
/-
  Pieces that are gathered: a text as a part of the value that is made; as lists, and in memory.
-/
namespace Go.Proofs.YtnencoainacpoaaDoor
open Go.RowKit WM
set_option linter.unusedVariables false
set_option maxRecDepth 100000
/-! ### as lists -/
def padd (G : List Pc) (p : Pc) : List Pc :=
  match G.getLast? with
  | some x => if x.cp = p.cp ∧ x.fr + x.ln = p.fr then G.dropLast ++ [⟨x.cp, x.fr, x.ln + p.ln, x.lit⟩] else G ++ [p]
  | none => G ++ [p]
theorem padd_nil (p : Pc) : padd [] p = [p] := rfl
theorem padd_on {a : List Pc} {x p : Pc} (h : x.cp = p.cp ∧ x.fr + x.ln = p.fr) : padd (a ++ [x]) p = a ++ [⟨x.cp, x.fr, x.ln + p.ln, x.lit⟩] := by simp [padd, h]
theorem padd_new {a : List Pc} {x p : Pc} (h : ¬ (x.cp = p.cp ∧ x.fr + x.ln = p.fr)) : padd (a ++ [x]) p = a ++ [x] ++ [p] := by
  simp only [padd, List.getLast?_append, List.getLast?_singleton, Option.some_or]
  rw [if_neg h]
def tlp (s : ByteArray) (p : Pc) : Pc := if p.cp then p else ⟨false, 0, 0, s.extract p.fr.toNat (p.fr + p.ln).toNat⟩
def tl (s : ByteArray) (G : List Pc) : List Pc := G.map (tlp s)
theorem tlp_copy {s : ByteArray} {p : Pc} (h : p.cp = true) : tlp s p = p := by simp [tlp, h]
theorem tlp_text {s : ByteArray} {p : Pc} (h : p.cp = false) : tlp s p = ⟨false, 0, 0, s.extract p.fr.toNat (p.fr + p.ln).toNat⟩ := by simp [tlp, h]
def aCopy (q : Int) : Pc := ⟨true, 8 * q, 8, ⟨#[]⟩⟩
def aText (a : Nat) : Pc := ⟨false, (a : Int), 1, ⟨#[]⟩⟩
/-- What holds of what is gathered up to place a. -/
structure GI (M a : Nat) (G : List Pc) : Prop where
  len : G.length ≤ a
  each : ∀ p ∈ G, p.lit = ⟨#[]⟩ ∧ 0 ≤ p.fr ∧ p.fr ≤ 8 * M + a ∧ 0 ≤ p.ln ∧ p.ln ≤ a ∧ (p.cp = false → p.fr + p.ln ≤ a)
  last : ∀ x, G.getLast? = some x → x.cp = false → x.fr + x.ln = a
theorem GI.nil (M : Nat) : GI M 0 [] := ⟨Nat.le_refl _, (fun p h => by cases h), fun x h => by cases h⟩
theorem ext_join (s : ByteArray) {i j k : Nat} (hij : i ≤ j) (hjk : j ≤ k) : s.extract i j ++ s.extract j k = s.extract i k := by
  apply ba_eq
  rw [nums_app11, nums_extract, nums_extract, nums_extract]
  have h1 : (nums s).drop j = ((nums s).drop i).drop (j - i) := by rw [List.drop_drop]; congr 1; omega
  rw [h1, show k - i = (j - i) + (k - j) by omega, List.take_add]
theorem tl_copy {s : ByteArray} {G : List Pc} {q : Int} : tl s (padd G (aCopy q)) = pcopy (tl s G) q := by
  rcases List.eq_nil_or_concat G with rfl | ⟨b, x, rfl⟩
  · rfl
  · rw [List.concat_eq_append]
    have ht : tl s (b ++ [x]) = tl s b ++ [tlp s x] := by simp [tl]
    rw [ht]
    cases hx : x.cp
    · rw [padd_new (by simp [hx, aCopy]), pcopy_new (by simp [tlp_text hx])]
      simp [tl, aCopy, tlp, hx, pcNew]
    · rw [tlp_copy hx]
      by_cases h : x.fr + x.ln = 8 * q
      · rw [padd_on ⟨hx, h⟩, pcopy_on ⟨hx, h⟩]
        simp [tl, tlp, hx, aCopy]
      · rw [padd_new (fun h2 => h h2.2), pcopy_new (fun h2 => h h2.2)]
        simp [tl, aCopy, tlp, hx, pcNew]
theorem tl_text {s : ByteArray} {G : List Pc} {M a : Nat} (h : GI M a G) (ha : a + 1 ≤ s.size) : tl s (padd G (aText a)) = ptext (tl s G) (s.extract a (a + 1)) := by
  have hnew : tlp s (aText a) = pcTxt (s.extract a (a + 1)) := by
    rw [tlp_text rfl]
    simp only [aText, pcTxt]
    rw [show ((a : Int) + 1).toNat = a + 1 by omega, Int.toNat_natCast]
  rcases List.eq_nil_or_concat G with rfl | ⟨b, x, rfl⟩
  · rw [padd_nil]
    show [tlp s (aText a)] = _
    rw [hnew]
    rfl
  · rw [List.concat_eq_append] at h ⊢
    have ht : tl s (b ++ [x]) = tl s b ++ [tlp s x] := by simp [tl]
    rw [ht]
    cases hx : x.cp
    · have hl := h.last x (by simp) hx
      obtain ⟨_, e1, _, e3, _⟩ := h.each x (by simp)
      rw [padd_on ⟨hx, hl⟩, tlp_text hx, ptext_on rfl]
      have : tl s (b ++ [⟨x.cp, x.fr, x.ln + (aText a).ln, x.lit⟩]) = tl s b ++ [tlp s ⟨x.cp, x.fr, x.ln + (aText a).ln, x.lit⟩] := by simp [tl]
      rw [this, tlp_text (p := ⟨x.cp, x.fr, x.ln + (aText a).ln, x.lit⟩) hx]
      dsimp only [aText]
      rw [show (x.fr + (x.ln + 1)).toNat = a + 1 by omega, show (x.fr + x.ln).toNat = a by omega, ext_join s (by omega) (by omega)]
    · rw [tlp_copy hx, padd_new (by simp [hx, aText]), ptext_new hx]
      simp only [tl, List.map_append, List.map_singleton, hnew, tlp_copy hx]
theorem GI.copy {M a : Nat} {G : List Pc} {q : Int} (h : GI M a G) (h0 : 0 ≤ q) (h1 : q ≤ M) : GI M (a + 8) (padd G (aCopy q)) := by
  obtain ⟨hl, he, hx⟩ := h
  have hc : (aCopy q).lit = ⟨#[]⟩ ∧ 0 ≤ (aCopy q).fr ∧ (aCopy q).fr ≤ 8 * M + ((a + 8 : Nat) : Int) ∧ 0 ≤ (aCopy q).ln ∧ (aCopy q).ln ≤ ((a + 8 : Nat) : Int) ∧ ((aCopy q).cp = false → (aCopy q).fr + (aCopy q).ln ≤ ((a + 8 : Nat) : Int)) := by
    simp only [aCopy]
    exact ⟨trivial, by omega, by omega, by omega, by omega, fun h => by cases h⟩
  have hm : ∀ p ∈ G, p.lit = ⟨#[]⟩ ∧ 0 ≤ p.fr ∧ p.fr ≤ 8 * M + ((a + 8 : Nat) : Int) ∧ 0 ≤ p.ln ∧ p.ln ≤ ((a + 8 : Nat) : Int) ∧ (p.cp = false → p.fr + p.ln ≤ ((a + 8 : Nat) : Int)) := fun p hp => by
    obtain ⟨e0, e1, e2, e3, e4, e5⟩ := he p hp
    exact ⟨e0, e1, by omega, e3, by omega, fun h => by have := e5 h; omega⟩
  rcases List.eq_nil_or_concat G with rfl | ⟨b, x, rfl⟩
  · rw [padd_nil]
    refine ⟨by simp, fun p hp => ?_, fun y hy hf => ?_⟩
    · obtain rfl := List.mem_singleton.1 hp; exact hc
    · obtain rfl : aCopy q = y := by simpa using hy
      cases hf
  · rw [List.concat_eq_append] at hl he hx hm ⊢
    by_cases hon : x.cp = (aCopy q).cp ∧ x.fr + x.ln = (aCopy q).fr
    · rw [padd_on hon]
      have hxc : x.cp = true := hon.1
      refine ⟨by simp at hl ⊢; omega, fun p hp => ?_, fun y hy hf => ?_⟩
      · rcases List.mem_append.1 hp with hp | hp
        · exact hm p (by simp [hp])
        · obtain rfl := List.mem_singleton.1 hp
          obtain ⟨e0, e1, e2, e3, e4, e5⟩ := he x (by simp)
          exact ⟨e0, e1, by dsimp only; omega, by dsimp only [aCopy]; omega, by dsimp only [aCopy]; omega, fun h => by dsimp only at h; rw [hxc] at h; cases h⟩
      · obtain rfl : _ = y := by simpa using hy
        dsimp only at hf
        rw [hxc] at hf
        cases hf
    · rw [padd_new hon]
      refine ⟨by simp at hl ⊢; omega, fun p hp => ?_, fun y hy hf => ?_⟩
      · rcases List.mem_append.1 hp with hp | hp
        · exact hm p hp
        · obtain rfl := List.mem_singleton.1 hp; exact hc
      · obtain rfl : aCopy q = y := by simpa using hy
        cases hf
theorem GI.text {M a : Nat} {G : List Pc} (h : GI M a G) : GI M (a + 1) (padd G (aText a)) := by
  obtain ⟨hl, he, hx⟩ := h
  have hc : (aText a).lit = ⟨#[]⟩ ∧ 0 ≤ (aText a).fr ∧ (aText a).fr ≤ 8 * M + ((a + 1 : Nat) : Int) ∧ 0 ≤ (aText a).ln ∧ (aText a).ln ≤ ((a + 1 : Nat) : Int) ∧ ((aText a).cp = false → (aText a).fr + (aText a).ln ≤ ((a + 1 : Nat) : Int)) := by
    simp only [aText]
    exact ⟨trivial, by omega, by omega, by omega, by omega, fun h => by omega⟩
  have hm : ∀ p ∈ G, p.lit = ⟨#[]⟩ ∧ 0 ≤ p.fr ∧ p.fr ≤ 8 * M + ((a + 1 : Nat) : Int) ∧ 0 ≤ p.ln ∧ p.ln ≤ ((a + 1 : Nat) : Int) ∧ (p.cp = false → p.fr + p.ln ≤ ((a + 1 : Nat) : Int)) := fun p hp => by
    obtain ⟨e0, e1, e2, e3, e4, e5⟩ := he p hp
    exact ⟨e0, e1, by omega, e3, by omega, fun h => by have := e5 h; omega⟩
  rcases List.eq_nil_or_concat G with rfl | ⟨b, x, rfl⟩
  · rw [padd_nil]
    refine ⟨by simp, fun p hp => ?_, fun y hy hf => ?_⟩
    · obtain rfl := List.mem_singleton.1 hp; exact hc
    · obtain rfl : aText a = y := by simpa using hy
      simp only [aText]; omega
  · rw [List.concat_eq_append] at hl he hx hm ⊢
    by_cases hon : x.cp = (aText a).cp ∧ x.fr + x.ln = (aText a).fr
    · rw [padd_on hon]
      have hxf : x.fr + x.ln = (a : Int) := hon.2
      refine ⟨by simp at hl ⊢; omega, fun p hp => ?_, fun y hy hf => ?_⟩
      · rcases List.mem_append.1 hp with hp | hp
        · exact hm p (by simp [hp])
        · obtain rfl := List.mem_singleton.1 hp
          obtain ⟨e0, e1, e2, e3, e4, e5⟩ := he x (by simp)
          exact ⟨e0, e1, by dsimp only; omega, by dsimp only [aText]; omega, by dsimp only [aText]; omega, fun h => by dsimp only [aText]; omega⟩
      · obtain rfl : _ = y := by simpa using hy
        dsimp only [aText]
        omega
    · rw [padd_new hon]
      refine ⟨by simp at hl ⊢; omega, fun p hp => ?_, fun y hy hf => ?_⟩
      · rcases List.mem_append.1 hp with hp | hp
        · exact hm p hp
        · obtain rfl := List.mem_singleton.1 hp; exact hc
      · obtain rfl : aText a = y := by simpa using hy
        simp only [aText]; omega
/-! ### in memory -/
def lastP : Value → Value
  | .slice (some b) (n + 1) _ => .pointer (some { b with off := b.off + n * 4 })
  | _ => .pointer none
/-- Where one is, and its cells. -/
theorem own_at {w : World} {base n : Nat} {v : Value} {a b : List Pc} {p : Pc} {k : Nat} (hk : a.length = k) (h : w.ownsRow base 44 KPc.n v n ((a ++ p :: b).flatMap KPc.cs)) :
    ∃ g cap, v = .slice (some ⟨g, 0, none⟩) n cap ∧ base ≤ g ∧ g < w.heap.size ∧ k < n ∧ n ≤ cap ∧ KPc.at w g (k * 4) p := by
  have hn : n = a.length + (b.length + 1) := by
    have h1 := h.1
    rw [pc_flat_len, List.length_append, List.length_cons] at h1
    have h2 : (a.length + (b.length + 1)) * 4 = n * 4 := h1
    omega
  rcases h.2 with ⟨_, h2⟩ | ⟨g, cap, cur, rfl, hb, hg, hn2, hm, hs, ht⟩
  · omega
  · refine ⟨g, cap, rfl, hb, (Array.getElem?_eq_some_iff.1 hg).1, by omega, hn2, fun i hi => ?_⟩
    have hi4 : i < 4 := hi
    rw [cell_of_row w g _ cur _ (0, 0) hg]
    have h1 : cur[k * 4 + i]? = ((a ++ p :: b).flatMap KPc.cs)[k * 4 + i]? := by
      rw [← ht, List.getElem?_take, if_pos (show k * 4 + i < n * KPc.n by show _ < n * 4; omega), Array.getElem?_toList]
    rw [h1, List.flatMap_append, List.getElem?_append_right (by rw [pc_flat_len, hk]; omega), pc_flat_len, hk, Nat.add_sub_cancel_left, List.flatMap_cons, List.getElem?_append_left (by show i < 4; exact hi4)]
theorem run_storeCells_mid {P : Program} (g o : Nat) (t : TypeId) : ∀ (vs : List Value) (i : Nat) (cur : Array Value) (w : World), w.heap[g]? = some (.cells cur t (0, 0)) → o + i + vs.length ≤ cur.size → (∀ v ∈ vs, v.oneCell' = true) →
    (storeCells ⟨g, o, none⟩ vs i).run P w = .ok () (w.setRow g (cur.toList.take (o + i) ++ vs ++ cur.toList.drop (o + i + vs.length)).toArray)
  | [], i, cur, w, hg, hl, _ => by
    have h1 : (cur.toList.take (o + i) ++ [] ++ cur.toList.drop (o + i + ([] : List Value).length)).toArray = cur := by simp
    rw [h1]
    have hlt : g < w.heap.size := (Array.getElem?_eq_some_iff.1 hg).1
    have hv : w.heap[g] = .cells cur t (0, 0) := (Array.getElem?_eq_some_iff.1 hg).2
    simp only [storeCells]
    show Result.ok () w = _
    congr 1
    unfold World.setRow
    cases w with
    | mk heap tape drawn os output =>
      congr 1
      apply Array.ext
      · simp
      · intro k h1 h2
        simp only [Array.getElem_modify]
        split
        · rename_i hk; subst hk; simp at hv; simp [hv]
        · rfl
  | v :: rest, i, cur, w, hg, hl, h1 => by
    have hl' : o + i + (rest.length + 1) ≤ cur.size := hl
    have hi : o + i < cur.size := by omega
    have hadd : (⟨g, o, none⟩ : Addr).add i = ⟨g, o + i, none⟩ := by rw [Addr.add_lit]
    have hcell : w.cell? ⟨g, o + i, none⟩ = some cur[o + i] := by simp [World.cell?, hg, hi]
    have hfro : w.frozen? ⟨g, o + i, none⟩ = false := by simp [World.frozen?, hg]
    have hst : (store ((⟨g, o, none⟩ : Addr).add i) v).run P w = .ok () (w.setRow g (cur.setIfInBounds (o + i) v)) := by
      rw [hadd, run_store P w _ v _ (h1 v (by simp)), hcell]
      simp [hfro, setCell_eq_setRow w g (o + i) cur t (0, 0) v hg]
    have ih := run_storeCells_mid (P := P) g o t rest (i + 1) (cur.setIfInBounds (o + i) v) (w.setRow g (cur.setIfInBounds (o + i) v)) (setRow_heap w g cur _ t _ hg) (by simp; omega) (fun x hx => h1 x (by simp [hx]))
    simp only [storeCells, Sem.run_bind, hst, Result.andThen_ok, ih, setRow_setRow]
    congr 3
    have e1 : (cur.setIfInBounds (o + i) v).toList.take (o + (i + 1)) = cur.toList.take (o + i) ++ [v] := by
      rw [Array.toList_setIfInBounds, show o + (i + 1) = (o + i) + 1 by omega, List.take_add_one, List.take_set_of_le (Nat.le_refl _), List.getElem?_set_self (by simpa using hi)]
      rfl
    have e2 : (cur.setIfInBounds (o + i) v).toList.drop (o + (i + 1) + rest.length) = cur.toList.drop (o + i + (v :: rest).length) := by
      rw [Array.toList_setIfInBounds, List.drop_set_of_lt (by omega), List.length_cons]
      congr 1
      omega
    rw [e1, e2]
    simp
theorem own_put_at {w : World} {base g cap n : Nat} {a b : List Pc} {p q : Pc} {k : Nat} (hk : a.length = k) (h : w.ownsRow base 44 KPc.n (.slice (some ⟨g, 0, none⟩) n cap) n ((a ++ p :: b).flatMap KPc.cs)) :
    ∃ w', (storeVar 44 ⟨g, k * 4, none⟩ (KPc.v q)).run Tryd.prog w = .ok () w' ∧ w'.ownsRow base 44 KPc.n (.slice (some ⟨g, 0, none⟩) n cap) n ((a ++ q :: b).flatMap KPc.cs) ∧ w.grownBy w' (some g) := by
  have hl := h.1
  rcases h.2 with ⟨h1, _⟩ | ⟨g', cap', cur, h1, hb, hg, hn2, hm, hs, ht⟩
  · cases h1
  · simp only [Value.slice.injEq, Option.some.injEq, Addr.mk.injEq, and_true, true_and] at h1
    obtain ⟨rfl, rfl⟩ := h1
    have hcs : ∀ x : Pc, (KPc.cs x).length = 4 := fun _ => rfl
    have hnn : n * 4 = a.length * 4 + 4 + b.length * 4 := by
      rw [pc_flat_len, List.length_append, List.length_cons] at hl
      have h2 : (a.length + (b.length + 1)) * 4 = n * 4 := hl
      omega
    have hcur : cur.toList = (a.flatMap KPc.cs ++ KPc.cs p ++ b.flatMap KPc.cs) ++ cur.toList.drop (n * 4) := by
      have h3 := List.take_append_drop (n * 4) cur.toList
      have h4 : cur.toList.take (n * 4) = (a ++ p :: b).flatMap KPc.cs := ht
      rw [h4, List.flatMap_append, List.flatMap_cons, ← List.append_assoc] at h3
      exact h3.symm
    have hsz : cur.size = cap * 4 := hs
    have hn4 : n ≤ cap := hn2
    have hst := run_storeCells_mid (P := Tryd.prog) g (k * 4) 44 (KPc.cs q) 0 cur w hg (by rw [hcs]; omega) (fun v hv => KPc.one q v hv)
    refine ⟨w.setRow g (cur.toList.take (k * 4 + 0) ++ KPc.cs q ++ cur.toList.drop (k * 4 + 0 + (KPc.cs q).length)).toArray, ?_, ⟨(show ((a ++ q :: b).flatMap KPc.cs).length = n * KPc.n from ?_), .inr ⟨g, cap, _, rfl, hb, setRow_heap _ _ _ _ _ _ hg, hn2, hm, ?_, ?_⟩⟩, ⟨rfl, rfl, rfl, by simp, fun j _ hj => setRow_other w g j _ (fun e => hj (by rw [e]))⟩⟩
    · unfold storeVar
      rw [Sem.run_bind, sizePc]
      simp only [Result.andThen_ok]
      rw [if_neg (by show ¬ (KPc.cs q).toArray.size ≠ KPc.n; rw [List.size_toArray, hcs]; exact fun h => h rfl)]
      exact hst
    · rw [pc_flat_len, List.length_append, List.length_cons] at hl ⊢
      exact hl
    · rw [List.size_toArray]
      simp only [List.length_append, List.length_take, List.length_drop, Array.length_toList, hcs]
      show _ = cap * 4
      omega
    · show List.take (n * 4) _ = _
      have e1 : cur.toList.take (k * 4) = a.flatMap KPc.cs := by
        rw [hcur, List.append_assoc, List.append_assoc, List.take_append_of_le_length (by rw [pc_flat_len, hk]; exact Nat.le_refl _), List.take_of_length_le (by rw [pc_flat_len, hk]; exact Nat.le_refl _)]
      have e2 : cur.toList.drop (k * 4 + 4) = b.flatMap KPc.cs ++ cur.toList.drop (n * 4) := by
        have hdl : ((a.flatMap KPc.cs ++ KPc.cs p)).length = k * 4 + 4 := by rw [List.length_append, pc_flat_len, hk, hcs]
        conv => lhs; rw [hcur, List.append_assoc]
        rw [← hdl, List.drop_left]
      simp only [hcs, Nat.add_zero]
      rw [e1, e2, List.flatMap_append, List.flatMap_cons]
      have hlen : (a.flatMap KPc.cs ++ (KPc.cs q ++ b.flatMap KPc.cs)).length = n * 4 := by
        simp only [List.length_append, pc_flat_len, hcs]; omega
      have e3 : a.flatMap KPc.cs ++ KPc.cs q ++ (b.flatMap KPc.cs ++ cur.toList.drop (n * 4)) = (a.flatMap KPc.cs ++ (KPc.cs q ++ b.flatMap KPc.cs)) ++ cur.toList.drop (n * 4) := by simp only [List.append_assoc]
      rw [e3, ← hlen, List.take_left]
end Go.Proofs.YtnencoainacpoaaDoor

end
section
/-
  What a gathering's add leaves. Nothing that was there is written.
-/
namespace Go.Proofs.YtnencoainacpoaaDoor
open Go.RowKit WM
set_option linter.unusedVariables false
set_option maxRecDepth 100000
def GatAt (w : World) (gB base : Nat) (G : List Pc) : Prop := ∃ lv, w.heap[gB]? = some (.cells #[lv, lastP lv] 57) ∧ w.ownsRow base 44 KPc.n lv G.length (G.flatMap KPc.cs)
def KeepG (gB base : Nat) (w w' : World) : Prop := Below gB w w' ∧ ∀ k, k < base → k ≠ gB → w'.heap[k]? = w.heap[k]?
theorem KeepG.refl (gB base : Nat) (w : World) : KeepG gB base w w := ⟨Below.refl _ _, fun _ _ _ => rfl⟩
theorem KeepG.trans {gB base : Nat} {a b c : World} (h : KeepG gB base a b) (k : KeepG gB base b c) : KeepG gB base a c := ⟨h.1.trans k.1, fun i hi hn => (k.2 i hi hn).trans (h.2 i hi hn)⟩
theorem KeepG.below {gB base : Nat} {a b : World} (h : Below a.heap.size a b) (hg : gB ≤ a.heap.size) (hb : base ≤ a.heap.size) : KeepG gB base a b := ⟨h.mono hg, fun k hk _ => h.block k (by omega)⟩
theorem KeepG.drew {gB base : Nat} {w X : World} (h : KeepG gB base w X) : KeepG gB base w X.drew := ⟨h.1.drew, h.2⟩
theorem KeepG.set {gB base j : Nat} {w X : World} (h : KeepG gB base w X) (v : Value) : KeepG gB base w (X.setCell ⟨gB, j, none⟩ v) := ⟨h.1.setCell (p := ⟨gB, j, none⟩) (Nat.le_refl _) v, fun k hk hn => (Below.heap_setCell _ _ _ _ hn).trans (h.2 k hk hn)⟩
theorem gat_set (w : World) (g j : Nat) (v : Value) : w.grownBy (w.setCell ⟨g, j, none⟩ v) (some g) :=
  ⟨rfl, rfl, rfl, ((Below.refl 0 w).setCell (p := ⟨g, j, none⟩) (Nat.zero_le _) v).size, fun k _ hk => Below.heap_setCell _ _ _ k (fun e => hk (by rw [e]))⟩
theorem gat_put0 {w : World} {g : Nat} {u v : Value} (h : w.heap[g]? = some (.cells #[u, v] 57)) (x : Value) : (w.setCell ⟨g, 0, none⟩ x).heap[g]? = some (.cells #[x, v] 57) := by
  rw [heap_setCell_same _ _ _ _ _ _ h]
  rfl
theorem gat_put1 {w : World} {g : Nat} {u v : Value} (h : w.heap[g]? = some (.cells #[u, v] 57)) (x : Value) : (w.setCell ⟨g, 1, none⟩ x).heap[g]? = some (.cells #[u, x] 57) := by
  rw [heap_setCell_same _ _ _ _ _ _ h]
  rfl
theorem lastP_new {w : World} {g g5 n cap : Nat} (h : w.heap[g]? = some (.cells #[.slice (some ⟨g5, 0, none⟩) (n + 1) cap, .pointer (some ⟨g5, n * 4, none⟩)] 57)) : w.heap[g]? = some (.cells #[.slice (some ⟨g5, 0, none⟩) (n + 1) cap, lastP (.slice (some ⟨g5, 0, none⟩) (n + 1) cap)] 57) := by
  have : lastP (.slice (some ⟨g5, 0, none⟩) (n + 1) cap) = .pointer (some ⟨g5, n * 4, none⟩) := by simp [lastP]
  rw [this]
  exact h
/-- What holds inside add, ahead of its stores. -/
structure AddSt (w : World) (gB base : Nat) (lv : Value) (G : List Pc) (p : Pc) (X : World) : Prop where
  gat : X.heap[gB]? = some (.cells #[lv, lastP lv] 57)
  own : X.ownsRow base 44 KPc.n lv G.length (G.flatMap KPc.cs)
  pb : X.heap[w.heap.size]? = some (.cells (KPc.cs p).toArray 44)
  keep : KeepG gB base w X
  base : base ≤ X.heap.size
section
variable {w X : World} {gB base : Nat} {lv : Value} {G : List Pc} {p : Pc}
theorem AddSt.drewN (h : AddSt w gB base lv G p X) (n : Nat) : AddSt w gB base lv G p (X.drewN n) := ⟨h.gat, h.own, h.pb, ⟨h.keep.1.trans ⟨rfl, rfl, rfl, Nat.le_refl _, fun _ _ => rfl⟩, h.keep.2⟩, h.base⟩
theorem AddSt.drew (h : AddSt w gB base lv G p X) : AddSt w gB base lv G p X.drew := ⟨h.gat, h.own, h.pb, h.keep.drew, h.base⟩
theorem AddSt.below {Y : World} (h : AddSt w gB base lv G p X) (hb : Below X.heap.size X Y) : AddSt w gB base lv G p Y := by
  have hg := (Array.getElem?_eq_some_iff.1 h.gat).1
  exact ⟨(hb.block _ hg).trans h.gat, own_below h.own hb, (hb.block _ (Array.getElem?_eq_some_iff.1 h.pb).1).trans h.pb, h.keep.trans (KeepG.below hb (by omega) h.base), Nat.le_trans h.base hb.size⟩
theorem AddSt.alloc (h : AddSt w gB base lv G p X) (o : Obj) : AddSt w gB base lv G p (X.alloc o) := h.below ((Below.refl _ _).alloc (Nat.le_refl _) o)
theorem AddSt.grow {Y : World} (h : AddSt w gB base lv G p X) {v : Value} {n : Nat} {xs : List Value} (ho : Y.ownsRow base 44 KPc.n v n xs) (hg : X.grownBy Y lv.ownBlock) (hlb : ∀ g, lv.ownBlock = some g → base ≤ g ∧ g < w.heap.size ∧ gB < base) :
    Y.heap[gB]? = some (.cells #[lv, lastP lv] 57) ∧ Y.heap[w.heap.size]? = some (.cells (KPc.cs p).toArray 44) ∧ KeepG gB base w Y := by
  refine ⟨(hg.block _ (Array.getElem?_eq_some_iff.1 h.gat).1 (fun e => ?_)).trans h.gat, (hg.block _ (Array.getElem?_eq_some_iff.1 h.pb).1 (fun e => ?_)).trans h.pb, h.keep.1.grown hg (Nat.le_trans (Nat.le_of_lt (Array.getElem?_eq_some_iff.1 h.gat).1) (Nat.le_refl _)) (fun g e => by have := hlb g e; omega), fun k hk hn => (hg.block k (Nat.lt_of_lt_of_le hk h.base) (fun e => ?_)).trans (h.keep.2 k hk hn)⟩
  · have := hlb _ e.symm; omega
  · have := hlb _ e.symm; omega
  · have := hlb _ e.symm; omega
theorem AddSt.put {g : Nat} {n cap : Nat} {G' : List Pc} (h : AddSt w gB base (.slice (some ⟨g, 0, none⟩) n cap) G p X) (hg : base ≤ g) (i : Nat) (u : Value) (hgb : gB < base) (hpb : g < w.heap.size)
    (ho : (X.setCell ⟨g, i, none⟩ u).ownsRow base 44 KPc.n (.slice (some ⟨g, 0, none⟩) n cap) G'.length (G'.flatMap KPc.cs)) : GatAt (X.setCell ⟨g, i, none⟩ u) gB base G' ∧ KeepG gB base w (X.setCell ⟨g, i, none⟩ u) :=
  ⟨⟨_, (Below.heap_setCell _ _ _ _ (by dsimp only; omega)).trans h.gat, ho⟩, h.keep.1.setCell (p := ⟨g, i, none⟩) (by show gB ≤ g; omega) u, fun k hk hn => (Below.heap_setCell _ _ _ _ (by dsimp only; omega)).trans (h.keep.2 k hk hn)⟩
end
def AddPost (w : World) (gB base : Nat) (G : List Pc) (e : Ending) (w' : World) : Prop := e = .returned (.tuple #[]) ∧ GatAt w' gB base G ∧ KeepG gB base w w'
set_option maxHeartbeats 8000000 in
theorem add_any (gB base : Nat) (G : List Pc) (p : Pc) (w : World) (h : GatAt w gB base G) (hgb : gB < base) (hbw : base ≤ w.heap.size) (hG : G.length ≤ 80000) (hgs : ∀ x ∈ G, 0 ≤ x.fr ∧ x.fr ≤ 100000000 ∧ 0 ≤ x.ln ∧ x.ln ≤ 100000000) (hp : 0 ≤ p.ln ∧ p.ln ≤ 100) :
    Calls Tryd.prog 29 #[.pointer (some ⟨gB, 0, none⟩), KPc.v p] w (AddPost w gB base (padd G p)) := by
  rw [pc_v]
  have HV : Hid (∀ G', padd G p = G' → ∀ w', GatAt w' gB base G' → KeepG gB base w w' → AddPost w gB base (padd G p) (.returned (.tuple #[])) w') := Lib.hid (fun G' e w' h1 h2 => ⟨rfl, by rw [e]; exact h1, h2⟩)
  generalize AddPost w gB base (padd G p) = RR at *
  obtain ⟨lv, hgat, hown⟩ := h
  have A1 : Hid (AddSt w gB base lv G p (w.alloc (.cells (KPc.cs p).toArray 44))) := Lib.hid
    ⟨(((Below.refl w.heap.size w).alloc (Nat.le_refl _) _).block _ (Array.getElem?_eq_some_iff.1 hgat).1).trans hgat, own_below hown ((Below.refl w.heap.size w).alloc (Nat.le_refl _) _), heap_alloc_new w _, KeepG.below ((Below.refl w.heap.size w).alloc (Nat.le_refl _) _) (by omega) hbw, by rw [World.size_alloc]; omega⟩
  obtain ⟨w1, hw1⟩ : ∃ w1, w1 = w.alloc (.cells (KPc.cs p).toArray 44) := ⟨_, rfl⟩
  rw [← hw1] at A1
  have HGB := Lib.hid hgb
  have HGN := Lib.hid (show G.length ≤ 90000 by omega)
  have HLB : Hid (∀ g, lv.ownBlock = some g → base ≤ g ∧ g < w.heap.size ∧ gB < base) := Lib.hid (fun g e => ⟨own_base hown e, by
    rcases hown.2 with ⟨rfl, _⟩ | ⟨g', cap, cur, rfl, _, hgg, _⟩
    · simp [Value.ownBlock] at e
    · obtain rfl : g' = g := by simpa [Value.ownBlock] using e
      exact (Array.getElem?_eq_some_iff.1 hgg).1, hgb⟩)
  obtain ⟨i0, hi, hz0, hz1, hz2⟩ := info_parts infoPc
  have hzl : (KPc.v pc0).cells.size = KPc.n := by decide
  obtain ⟨pc, pf, pl, pt⟩ := p
  dsimp only at hp ⊢
  have hw1 : w1 = w.alloc (.cells #[.bool pc, .int .i64 pf, .int .i64 pl, .string pt] 44) := hw1
  have hown0 := hown
  clear hgat
  rcases List.eq_nil_or_concat G with rfl | ⟨init, x, rfl⟩
  · obtain ⟨A0, c0, rfl⟩ := own_pcs hown
    have hlp : lastP (.slice A0 ([] : List Pc).length c0) = .pointer none := by cases A0 <;> rfl
    obtain ⟨lv, hlv⟩ : ∃ lv, lv = Value.slice A0 ([] : List Pc).length c0 := ⟨_, rfl⟩
    rw [← hlv] at A1 HLB hlp
    have HLP := Lib.hid hlp
    obtain ⟨G, hGe⟩ : ∃ G : List Pc, G = [] := ⟨_, rfl⟩
    rw [← hGe] at A1 HV HGN
    have HPA := Lib.hid (show padd G (⟨pc, pf, pl, pt⟩ : Pc) = G ++ [⟨pc, pf, pl, pt⟩] by rw [hGe]; rfl)
    clear hgs hown hown0 hlv hGe hlp
    have HPB : Hid (w.heap.size ≠ gB) := Lib.hid (by omega)
    have K0 : Hid (w1.cell? ⟨w.heap.size, 0, none⟩ = some (.bool pc)) := Lib.hid (by rw [cell_of_row _ _ _ _ _ _ A1.out.pb]; rfl)
    have K1 : Hid (w1.cell? ⟨w.heap.size, 1, none⟩ = some (.int .i64 pf)) := Lib.hid (by rw [cell_of_row _ _ _ _ _ _ A1.out.pb]; rfl)
    have K2 : Hid (w1.cell? ⟨w.heap.size, 2, none⟩ = some (.int .i64 pl)) := Lib.hid (by rw [cell_of_row _ _ _ _ _ _ A1.out.pb]; rfl)
    have K3 : Hid (w1.cell? ⟨w.heap.size, 3, none⟩ = some (.string pt)) := Lib.hid (by rw [cell_of_row _ _ _ _ _ _ A1.out.pb]; rfl)
    have K5 : Hid (w1.cell? ⟨gB, 1, none⟩ = some (.pointer none)) := Lib.hid (by rw [cell_of_row _ _ _ _ _ _ A1.out.gat, ← HLP.out]; rfl)
    have LG := Lib.hid (Array.getElem?_eq_some_iff.1 A1.out.gat).1
    have LB := Lib.hid (Array.getElem?_eq_some_iff.1 A1.out.pb).1
    go_enter Tryd.func29, Tryd.ntmps29
    go_wp2_with fail
    rw [← hw1]
    clear hw1
    refine wp_region_G _ (by kernel_rfl) ?_
    refine wpG_take (i := 0) (oi := ⟨some 4, _, _, _, _, _⟩) (v := ?_) rfl (by kernel_rfl) (by kernel_rfl) (by kernel_rfl) (Or.inl ⟨by rfl, unib_val ?_⟩) ?_; rotate_left; (focus (intro w9 hSw; go_simp; try with_reducible rfl)); simp only [Act.put, List.setIfInBounds_toArray, List.set_cons_zero, List.set_cons_succ]
    refine wpG_take (i := 1) (oi := ⟨some 5, _, _, _, _, _⟩) (v := ?_) rfl (by kernel_rfl) (by kernel_rfl) (by kernel_rfl) (Or.inl ⟨by rfl, unib_val ?_⟩) ?_; rotate_left; (focus (intro w9 hSw; go_simp; try with_reducible rfl)); simp only [Act.put, List.setIfInBounds_toArray, List.set_cons_zero, List.set_cons_succ]
    refine wpG_take (i := 2) (oi := ⟨some 6, _, _, _, _, _⟩) (v := ?_) rfl (by kernel_rfl) (by kernel_rfl) (by kernel_rfl) (Or.inl ⟨by rfl, unib_val ?_⟩) ?_; rotate_left; (focus (intro w9 hSw; go_simp; try with_reducible rfl)); simp only [Act.put, List.setIfInBounds_toArray, List.set_cons_zero, List.set_cons_succ]
    refine wpG_take (i := 3) (oi := ⟨some 7, _, _, _, _, _⟩) (v := ?_) rfl (by kernel_rfl) (by kernel_rfl) (by kernel_rfl) (Or.inl ⟨by rfl, unib_val ?_⟩) ?_; rotate_left; (focus (intro w9 hSw; have q0 := (hSw.cell (p := ⟨gB, 1, none⟩) LG.out).trans K5.out; go_simp; try with_reducible rfl)); simp only [Act.put, List.setIfInBounds_toArray, List.set_cons_zero, List.set_cons_succ]
    refine wpG_take (i := 4) (oi := ⟨some 8, _, _, _, _, _⟩) (v := (.bool false)) rfl (by kernel_rfl) (by kernel_rfl) (by kernel_rfl) (Or.inl ⟨by rfl, unib_val ?_⟩) ?_; (focus (intro w9 hSw; go_simp; try rfl)); simp only [Act.put, List.setIfInBounds_toArray, List.set_cons_zero, List.set_cons_succ]
    refine wpG_take (i := 5) (oi := ⟨some 9, _, _, _, _, _⟩) (v := ?_) rfl (by kernel_rfl) (by kernel_rfl) (by kernel_rfl) (Or.inl ⟨by rfl, unib_val ?_⟩) ?_; rotate_left; (focus (intro w9 hSw; go_simp; try with_reducible rfl)); simp only [Act.put, List.setIfInBounds_toArray, List.set_cons_zero, List.set_cons_succ]
    refine wpG_take (i := 6) (oi := ⟨some 10, _, _, _, _, _⟩) rfl (by kernel_rfl) (by kernel_rfl) (by kernel_rfl) (Or.inr ⟨by rfl, rfl⟩) ?_; simp only [Act.put, List.setIfInBounds_toArray, List.set_cons_zero, List.set_cons_succ]
    refine wpG_take (i := 7) (oi := ⟨some 11, _, _, _, _, _⟩) rfl (by kernel_rfl) (by kernel_rfl) (by kernel_rfl) (Or.inr ⟨by rfl, rfl⟩) ?_; simp only [Act.put, List.setIfInBounds_toArray, List.set_cons_zero, List.set_cons_succ]
    refine wpG_take (i := 8) (oi := ⟨some 12, _, _, _, _, _⟩) rfl (by kernel_rfl) (by kernel_rfl) (by kernel_rfl) (Or.inr ⟨by rfl, rfl⟩) ?_; simp only [Act.put, List.setIfInBounds_toArray, List.set_cons_zero, List.set_cons_succ]
    refine wpG_take (i := 9) (oi := ⟨some 13, _, _, _, _, _⟩) rfl (by kernel_rfl) (by kernel_rfl) (by kernel_rfl) (Or.inr ⟨by rfl, rfl⟩) ?_; simp only [Act.put, List.setIfInBounds_toArray, List.set_cons_zero, List.set_cons_succ]
    refine wpG_take (i := 10) (oi := ⟨some 14, _, _, _, _, _⟩) rfl (by kernel_rfl) (by kernel_rfl) (by kernel_rfl) (Or.inr ⟨by rfl, rfl⟩) ?_; simp only [Act.put, List.setIfInBounds_toArray, List.set_cons_zero, List.set_cons_succ]
    refine wpG_take (i := 11) (oi := ⟨some 15, _, _, _, _, _⟩) rfl (by kernel_rfl) (by kernel_rfl) (by kernel_rfl) (Or.inr ⟨by rfl, rfl⟩) ?_; simp only [Act.put, List.setIfInBounds_toArray, List.set_cons_zero, List.set_cons_succ]
    refine wpG_take (i := 12) (oi := ⟨some 16, _, _, _, _, _⟩) rfl (by kernel_rfl) (by kernel_rfl) (by kernel_rfl) (Or.inr ⟨by rfl, rfl⟩) ?_; simp only [Act.put, List.setIfInBounds_toArray, List.set_cons_zero, List.set_cons_succ]
    refine wpG_take (i := 13) (oi := ⟨some 17, _, _, _, _, _⟩) rfl (by kernel_rfl) (by kernel_rfl) (by kernel_rfl) (Or.inr ⟨by rfl, rfl⟩) ?_; simp only [Act.put, List.setIfInBounds_toArray, List.set_cons_zero, List.set_cons_succ]
    refine wpG_take (i := 14) (oi := ⟨some 18, _, _, _, _, _⟩) rfl (by kernel_rfl) (by kernel_rfl) (by kernel_rfl) (Or.inr ⟨by rfl, rfl⟩) ?_; simp only [Act.put, List.setIfInBounds_toArray, List.set_cons_zero, List.set_cons_succ]
    refine wpG_take (i := 15) (oi := ⟨some 19, _, _, _, _, _⟩) rfl (by kernel_rfl) (by kernel_rfl) (by kernel_rfl) (Or.inr ⟨by rfl, rfl⟩) ?_; simp only [Act.put, List.setIfInBounds_toArray, List.set_cons_zero, List.set_cons_succ]
    refine wpG_take (i := 16) (oi := ⟨some 20, _, _, _, _, _⟩) (v := ?_) rfl (by kernel_rfl) (by kernel_rfl) (by kernel_rfl) (Or.inl ⟨by rfl, unib_val ?_⟩) ?_; rotate_left; (focus (intro w9 hSw; go_simp; try with_reducible rfl)); simp only [Act.put, List.setIfInBounds_toArray, List.set_cons_zero, List.set_cons_succ]
    refine wpG_take (i := 17) (oi := ⟨some 21, _, _, _, _, _⟩) (v := ?_) rfl (by kernel_rfl) (by kernel_rfl) (by kernel_rfl) (Or.inl ⟨by rfl, unib_val ?_⟩) ?_; rotate_left; (focus (intro w9 hSw; go_simp; try with_reducible rfl)); simp only [Act.put, List.setIfInBounds_toArray, List.set_cons_zero, List.set_cons_succ]
    refine wpG_take (i := 18) (oi := ⟨some 22, _, _, _, _, _⟩) rfl (by kernel_rfl) (by kernel_rfl) (by kernel_rfl) (Or.inr ⟨by rfl, rfl⟩) ?_; simp only [Act.put, List.setIfInBounds_toArray, List.set_cons_zero, List.set_cons_succ]
    refine wpG_take (i := 19) (oi := ⟨some 23, _, _, _, _, _⟩) rfl (by kernel_rfl) (by kernel_rfl) (by kernel_rfl) (Or.inr ⟨by rfl, rfl⟩) ?_; simp only [Act.put, List.setIfInBounds_toArray, List.set_cons_zero, List.set_cons_succ]
    refine wpG_take (i := 20) (oi := ⟨some 24, _, _, _, _, _⟩) rfl (by kernel_rfl) (by kernel_rfl) (by kernel_rfl) (Or.inr ⟨by rfl, rfl⟩) ?_; simp only [Act.put, List.setIfInBounds_toArray, List.set_cons_zero, List.set_cons_succ]
    refine wpG_take (i := 21) (oi := ⟨some 25, _, _, _, _, _⟩) rfl (by kernel_rfl) (by kernel_rfl) (by kernel_rfl) (Or.inr ⟨by rfl, rfl⟩) ?_; simp only [Act.put, List.setIfInBounds_toArray, List.set_cons_zero, List.set_cons_succ]
    refine wpG_take (i := 22) (oi := ⟨some 26, _, _, _, _, _⟩) rfl (by kernel_rfl) (by kernel_rfl) (by kernel_rfl) (Or.inr ⟨by rfl, rfl⟩) ?_; simp only [Act.put, List.setIfInBounds_toArray, List.set_cons_zero, List.set_cons_succ]
    refine wpG_take (i := 23) (oi := ⟨some 27, _, _, _, _, _⟩) rfl (by kernel_rfl) (by kernel_rfl) (by kernel_rfl) (Or.inr ⟨by rfl, rfl⟩) ?_; simp only [Act.put, List.setIfInBounds_toArray, List.set_cons_zero, List.set_cons_succ]
    refine wpG_take (i := 24) (oi := ⟨some 28, _, _, _, _, _⟩) rfl (by kernel_rfl) (by kernel_rfl) (by kernel_rfl) (Or.inr ⟨by rfl, rfl⟩) ?_; simp only [Act.put, List.setIfInBounds_toArray, List.set_cons_zero, List.set_cons_succ]
    refine wpG_take (i := 25) (oi := ⟨some 29, _, _, _, _, _⟩) rfl (by kernel_rfl) (by kernel_rfl) (by kernel_rfl) (Or.inr ⟨by rfl, rfl⟩) ?_; simp only [Act.put, List.setIfInBounds_toArray, List.set_cons_zero, List.set_cons_succ]
    refine wpG_take (i := 26) (oi := ⟨some 30, _, _, _, _, _⟩) rfl (by kernel_rfl) (by kernel_rfl) (by kernel_rfl) (Or.inr ⟨by rfl, rfl⟩) ?_; simp only [Act.put, List.setIfInBounds_toArray, List.set_cons_zero, List.set_cons_succ]
    refine wpG_take (i := 27) (oi := ⟨some 31, _, _, _, _, _⟩) rfl (by kernel_rfl) (by kernel_rfl) (by kernel_rfl) (Or.inr ⟨by rfl, rfl⟩) ?_; simp only [Act.put, List.setIfInBounds_toArray, List.set_cons_zero, List.set_cons_succ]
    refine wpG_take (i := 28) (oi := ⟨some 32, _, _, _, _, _⟩) rfl (by kernel_rfl) (by kernel_rfl) (by kernel_rfl) (Or.inr ⟨by rfl, rfl⟩) ?_; simp only [Act.put, List.setIfInBounds_toArray, List.set_cons_zero, List.set_cons_succ]
    refine wpG_take (i := 29) (oi := ⟨some 33, _, _, _, _, _⟩) rfl (by kernel_rfl) (by kernel_rfl) (by kernel_rfl) (Or.inr ⟨by rfl, rfl⟩) ?_; simp only [Act.put, List.setIfInBounds_toArray, List.set_cons_zero, List.set_cons_succ]
    refine wpG_take (i := 30) (oi := ⟨some 34, _, _, _, _, _⟩) rfl (by kernel_rfl) (by kernel_rfl) (by kernel_rfl) (Or.inr ⟨by rfl, rfl⟩) ?_; simp only [Act.put, List.setIfInBounds_toArray, List.set_cons_zero, List.set_cons_succ]
    refine wpG_take (i := 31) (oi := ⟨some 35, _, _, _, _, _⟩) rfl (by kernel_rfl) (by kernel_rfl) (by kernel_rfl) (Or.inr ⟨by rfl, rfl⟩) ?_; simp only [Act.put, List.setIfInBounds_toArray, List.set_cons_zero, List.set_cons_succ]
    refine wpG_take (i := 32) (oi := ⟨some 36, _, _, _, _, _⟩) rfl (by kernel_rfl) (by kernel_rfl) (by kernel_rfl) (Or.inr ⟨by rfl, rfl⟩) ?_; simp only [Act.put, List.setIfInBounds_toArray, List.set_cons_zero, List.set_cons_succ]
    refine wpG_take (i := 33) (oi := ⟨some 37, _, _, _, _, _⟩) rfl (by kernel_rfl) (by kernel_rfl) (by kernel_rfl) (Or.inr ⟨by rfl, rfl⟩) ?_; simp only [Act.put, List.setIfInBounds_toArray, List.set_cons_zero, List.set_cons_succ]
    refine wpG_take (i := 34) (oi := ⟨some 38, _, _, _, _, _⟩) rfl (by kernel_rfl) (by kernel_rfl) (by kernel_rfl) (Or.inr ⟨by rfl, rfl⟩) ?_; simp only [Act.put, List.setIfInBounds_toArray, List.set_cons_zero, List.set_cons_succ]
    refine wpG_take (i := 35) (oi := ⟨some 39, _, _, _, _, _⟩) rfl (by kernel_rfl) (by kernel_rfl) (by kernel_rfl) (Or.inr ⟨by rfl, rfl⟩) ?_; simp only [Act.put, List.setIfInBounds_toArray, List.set_cons_zero, List.set_cons_succ]
    refine wpG_take (i := 36) (oi := ⟨some 40, _, _, _, _, _⟩) (v := ?_) rfl (by kernel_rfl) (by kernel_rfl) (by kernel_rfl) (Or.inl ⟨by rfl, unib_val ?_⟩) ?_; rotate_left; (focus (intro w9 hSw; go_simp; try with_reducible rfl)); simp only [Act.put, List.setIfInBounds_toArray, List.set_cons_zero, List.set_cons_succ]
    refine wpG_done (by kernel_rfl) ?_ _
    intro w2 hSw _
    have A2 := Lib.hid (A1.out.below hSw)
    clear hSw
    go_wp2_with fail
    refine wp_region_held_drew (S := fun w' => w'.heap[w.heap.size]? = w2.heap[w.heap.size]?) (by kernel_rfl) rfl (fun hS => ?_)
    have A3 := Lib.hid (A2.out.drew)
    generalize World.drew _ = w3 at *
    refine wpAnyH_take (i := 0) (oi := ⟨some 53, _, _, _, _, _⟩) (v := ?_) rfl (by kernel_rfl) (by kernel_rfl) (by kernel_rfl) (fun _ _ _ h => h) (Or.inl ⟨by rfl, ?_⟩) hS ?_; rotate_left; (focus (intro w9 hSw; (try dsimp only at hSw); go_simp; try with_reducible rfl)); simp only [Act.put, List.setIfInBounds_toArray, List.set_cons_zero, List.set_cons_succ]
    refine wpAnyH_take (i := 1) (oi := ⟨some 54, _, _, _, _, _⟩) (v := ?_) rfl (by kernel_rfl) (by kernel_rfl) (by kernel_rfl) (fun _ _ _ h => h) (Or.inl ⟨by rfl, ?_⟩) hS ?_; rotate_left; (focus (intro w9 hSw; (try dsimp only at hSw); go_simp; try with_reducible rfl)); simp only [Act.put, List.setIfInBounds_toArray, List.set_cons_zero, List.set_cons_succ]
    refine wpAnyH_take (i := 2) (oi := ⟨some 55, _, _, _, _, _⟩) (v := ?_) rfl (by kernel_rfl) (by kernel_rfl) (by kernel_rfl) (fun _ _ _ h => h) (Or.inl ⟨by rfl, ?_⟩) hS ?_; rotate_left; (focus (intro w9 hSw; (try dsimp only at hSw); go_simp; try with_reducible rfl)); simp only [Act.put, List.setIfInBounds_toArray, List.set_cons_zero, List.set_cons_succ]
    refine wpAnyH_take (i := 3) (oi := ⟨some 56, _, _, _, _, _⟩) (v := ?_) rfl (by kernel_rfl) (by kernel_rfl) (by kernel_rfl) (fun _ _ _ h => h) (Or.inl ⟨by rfl, ?_⟩) hS ?_; rotate_left; (focus (intro w9 hSw; (try dsimp only at hSw); go_simp; try with_reducible rfl)); simp only [Act.put, List.setIfInBounds_toArray, List.set_cons_zero, List.set_cons_succ]
    refine wpAnyH_take (i := 5) (oi := ⟨some 58, _, _, _, _, _⟩) (v := (KPc.v (⟨pc, pf, pl, pt⟩ : Pc))) rfl (by kernel_rfl) (by kernel_rfl) (by kernel_rfl) (fun _ _ _ h => h) (Or.inl ⟨by rfl, ?_⟩) hS ?_; (focus (intro w9 hSw; (try dsimp only at hSw); exact exec_load_at 44 _ rfl ⟨w.heap.size, 0, none⟩ rfl (load_pc (Kind.at_blk (hSw.trans A2.out.pb))))); simp only [Act.put, List.setIfInBounds_toArray, List.set_cons_zero, List.set_cons_succ]
    refine wpAnyH_ready (rs := [4, 6]) (by kernel_rfl) (by simp) (AllReadyH.cons (o := ⟨some 57, _, _, _, _, _⟩) rfl (fun K hK => ?_) (AllReadyH.cons (o := ⟨some 59, _, _, _, _, _⟩) rfl (fun K hK => ?_) AllReadyH.nil))
    · have q0 : World.cell? w3 ⟨gB, 0, none⟩ = some lv := by rw [cell_of_row _ _ _ _ _ _ A3.out.gat]; rfl
      go_simp
      refine hK.out _ _ hS (fun hS => ?_)
      clear hK K q0
      try simp only [Act.put, List.setIfInBounds_toArray, List.set_cons_zero, List.set_cons_succ]
      refine wpAnyH_ready (rs := [6]) (by kernel_rfl) (by simp) (AllReadyH.cons (o := ⟨some 59, _, _, _, _, _⟩) rfl (fun K hK => ?_) AllReadyH.nil)
      refine step_bsliceK (K := KPc) rfl (.tmp 58) rfl (⟨pc, pf, pl, pt⟩ : Pc) rfl rfl Tryd.underlying22 sizePc zeroPc nPc ?_
      have A4 := Lib.hid (A3.out.alloc (.cells (KPc.cs (⟨pc, pf, pl, pt⟩ : Pc)).toArray 44))
      refine hK.out _ _ ((Below.heap_alloc _ _ _ (Array.getElem?_eq_some_iff.1 A3.out.pb).1).trans hS) (fun hS => ?_)
      clear hK K
      try simp only [Act.put, List.setIfInBounds_toArray, List.set_cons_zero, List.set_cons_succ]
      refine wpAnyH_ready (rs := [7]) (by kernel_rfl) (by simp) (AllReadyH.cons (o := ⟨some 60, _, _, _, _, _⟩) rfl (fun K hK => ?_) AllReadyH.nil)
      refine step_append_K (K := KPc) (o := ⟨some 60, _, _, _, _, _⟩) rfl _ _ 22 rfl base 44 i0 _ 40 Tryd.underlying22 hi hz0 hz1 hz2 hzl (by omega) lv G (⟨pc, pf, pl, pt⟩ : Pc) rfl A4.out.own HGN.out rfl rfl (by have := A4.out.base; omega) ?_
      intro v5 w5 ho5 hg5
      have P5 := Lib.hid (A4.out.grow ho5 hg5 HLB.out)
      obtain ⟨g5, cap5, hv5, hbg5, hgw5, hjc5, hat5⟩ := own_last (a := G) (p := (⟨pc, pf, pl, pt⟩ : Pc)) rfl ho5
      subst hv5
      have HO5 := Lib.hid ho5
      have HG5 := Lib.hid hbg5
      clear ho5 hg5 hgw5 hjc5 hat5
      refine hK.out _ _ (P5.out.2.1.trans A2.out.pb.symm) (fun hS => ?_)
      clear hK K
      try simp only [Act.put, List.setIfInBounds_toArray, List.set_cons_zero, List.set_cons_succ]
      refine wpAnyH_take (i := 8) (oi := ⟨some 61, _, _, _, _, _⟩) (v := ?_) rfl (by kernel_rfl) (by kernel_rfl) (by kernel_rfl) (fun _ _ _ h => h) (Or.inl ⟨by rfl, ?_⟩) hS ?_; rotate_left; (focus (intro w9 hSw; (try dsimp only at hSw); go_simp; try with_reducible rfl)); simp only [Act.put, List.setIfInBounds_toArray, List.set_cons_zero, List.set_cons_succ]
      refine wpAnyH_take (i := 9) (oi := ⟨some 62, _, _, _, _, _⟩) (v := ?_) rfl (by kernel_rfl) (by kernel_rfl) (by kernel_rfl) (fun _ _ _ h => h) (Or.inl ⟨by rfl, ?_⟩) hS ?_; rotate_left; (focus (intro w9 hSw; (try dsimp only at hSw); go_simp; try with_reducible rfl)); simp only [Act.put, List.setIfInBounds_toArray, List.set_cons_zero, List.set_cons_succ]
      refine wpAnyH_ready (rs := [10]) (by kernel_rfl) (by simp) (AllReadyH.cons (o := ⟨none, _, _, _, _, _⟩) rfl (fun K hK => ?_) AllReadyH.nil)
      have q0 : w5.cell? ⟨gB, 0, none⟩ = some lv := by rw [cell_of_row _ _ _ _ _ _ P5.out.1]; rfl
      have q1 : w5.frozen? ⟨gB, 0, none⟩ = false := frozen_of_row _ _ _ _ _ P5.out.1
      have G6 := Lib.hid (gat_put0 P5.out.1 (.slice (some ⟨g5, 0, none⟩) (G.length + 1) cap5))
      have O6 := Lib.hid (HO5.out.kept (gat_set w5 gB 0 (.slice (some ⟨g5, 0, none⟩) (G.length + 1) cap5)) (.inr (fun e => by have := own_base HO5.out e; have := HGB.out; omega)))
      have K6 := Lib.hid (P5.out.2.2.set (j := 0) (.slice (some ⟨g5, 0, none⟩) (G.length + 1) cap5))
      go_simp
      refine hK.out _ _ ((Below.heap_setCell _ _ _ _ (by have := HPB.out; dsimp only; omega)).trans hS) (fun hS => ?_)
      clear hK K q0 q1 hS
      try simp only [Act.put, List.setIfInBounds_toArray, List.set_cons_zero, List.set_cons_succ]
      refine wpAnyH_done (by kernel_rfl) ?_ _
      generalize w5.setCell ⟨gB, 0, none⟩ (.slice (some ⟨g5, 0, none⟩) (G.length + 1) cap5) = w6 at *
      go_wp2_with fail
      refine wp_region_held_drew (S := fun w' => w'.heap[gB]? = w6.heap[gB]? ∨ w'.heap[gB]? = some (.cells #[.slice (some ⟨g5, 0, none⟩) (G.length + 1) cap5, .pointer (some ⟨g5, G.length * 4, none⟩)] 57)) (by kernel_rfl) (.inl rfl) (fun hS => ?_)
      have G7 := Lib.hid (show (World.drew w6).heap[gB]? = _ from G6.out)
      have O7 := Lib.hid (show (World.drew w6).ownsRow base 44 KPc.n (.slice (some ⟨g5, 0, none⟩) (G.length + 1) cap5) (G.length + 1) ((G ++ [(⟨pc, pf, pl, pt⟩ : Pc)]).flatMap KPc.cs) from O6.out)
      have K7 := Lib.hid (show KeepG gB base w (World.drew w6) from K6.out.drew)
      generalize World.drew w6 = w7 at *
      have HC0 : Hid (∀ w9 : World, (w9.heap[gB]? = w6.heap[gB]? ∨ w9.heap[gB]? = some (.cells #[.slice (some ⟨g5, 0, none⟩) (G.length + 1) cap5, .pointer (some ⟨g5, G.length * 4, none⟩)] 57)) → w9.cell? ⟨gB, 0, none⟩ = some (.slice (some ⟨g5, 0, none⟩) (G.length + 1) cap5)) := Lib.hid (fun w9 h => by
        rcases h with h | h
        · rw [cell_of_row _ _ _ _ _ _ (h.trans G6.out)]; rfl
        · rw [cell_of_row _ _ _ _ _ _ h]; rfl)
      have FW5 : Hid (IntKind.i64.wrap (((G.length + 1 : Nat) : Int) - 1) = (G.length : Int)) := Lib.hid (by rw [IntWalk.i64_in _ (by have := HGN.out; omega)]; omega)
      have FW6 : Hid (IntKind.i64.wrap (G.length : Int) = (G.length : Int)) := Lib.hid (IntWalk.i64_in _ (by have := HGN.out; omega))
      have HIX := Lib.hid (fun w9 => pc_ix g5 G.length cap5 (G.length : Int) rfl w9)
      refine wpAnyH_take (i := 0) (oi := ⟨some 63, _, _, _, _, _⟩) (v := ?_) rfl (by kernel_rfl) (by kernel_rfl) (by kernel_rfl) (fun _ _ _ h => h) (Or.inl ⟨by rfl, ?_⟩) hS ?_; rotate_left; (focus (intro w9 hSw; (try dsimp only at hSw); go_simp; try with_reducible rfl)); simp only [Act.put, List.setIfInBounds_toArray, List.set_cons_zero, List.set_cons_succ]
      refine wpAnyH_take (i := 1) (oi := ⟨some 64, _, _, _, _, _⟩) (v := ?_) rfl (by kernel_rfl) (by kernel_rfl) (by kernel_rfl) (fun _ _ _ h => h) (Or.inl ⟨by rfl, ?_⟩) hS ?_; rotate_left; (focus (intro w9 hSw; (try dsimp only at hSw); go_simp; try with_reducible rfl)); simp only [Act.put, List.setIfInBounds_toArray, List.set_cons_zero, List.set_cons_succ]
      refine wpAnyH_take (i := 2) (oi := ⟨some 65, _, _, _, _, _⟩) (v := ?_) rfl (by kernel_rfl) (by kernel_rfl) (by kernel_rfl) (fun _ _ _ h => h) (Or.inl ⟨by rfl, ?_⟩) hS ?_; rotate_left; (focus (intro w9 hSw; (try dsimp only at hSw); go_simp; try with_reducible rfl)); simp only [Act.put, List.setIfInBounds_toArray, List.set_cons_zero, List.set_cons_succ]
      refine wpAnyH_take (i := 3) (oi := ⟨some 66, _, _, _, _, _⟩) (v := ?_) rfl (by kernel_rfl) (by kernel_rfl) (by kernel_rfl) (fun _ _ _ h => h) (Or.inl ⟨by rfl, ?_⟩) hS ?_; rotate_left; (focus (intro w9 hSw; (try dsimp only at hSw); go_simp; try with_reducible rfl)); simp only [Act.put, List.setIfInBounds_toArray, List.set_cons_zero, List.set_cons_succ]
      refine wpAnyH_take (i := 4) (oi := ⟨some 67, _, _, _, _, _⟩) (v := ?_) rfl (by kernel_rfl) (by kernel_rfl) (by kernel_rfl) (fun _ _ _ h => h) (Or.inl ⟨by rfl, ?_⟩) hS ?_; rotate_left; (focus (intro w9 hSw; (try dsimp only at hSw); have q0 := HC0.out w9 hSw; go_simp; try with_reducible rfl)); simp only [Act.put, List.setIfInBounds_toArray, List.set_cons_zero, List.set_cons_succ]
      refine wpAnyH_take (i := 5) (oi := ⟨some 68, _, _, _, _, _⟩) (v := ?_) rfl (by kernel_rfl) (by kernel_rfl) (by kernel_rfl) (fun _ _ _ h => h) (Or.inl ⟨by rfl, ?_⟩) hS ?_; rotate_left; (focus (intro w9 hSw; (try dsimp only at hSw); go_simp; try with_reducible rfl)); simp only [Act.put, List.setIfInBounds_toArray, List.set_cons_zero, List.set_cons_succ]
      refine wpAnyH_take (i := 6) (oi := ⟨some 69, _, _, _, _, _⟩) (v := ?_) rfl (by kernel_rfl) (by kernel_rfl) (by kernel_rfl) (fun _ _ _ h => h) (Or.inl ⟨by rfl, ?_⟩) hS ?_; rotate_left; (focus (intro w9 hSw; (try dsimp only at hSw); go_simp; try with_reducible rfl)); simp only [Act.put, List.setIfInBounds_toArray, List.set_cons_zero, List.set_cons_succ]
      refine wpAnyH_take (i := 7) (oi := ⟨some 70, _, _, _, _, _⟩) (v := ?_) rfl (by kernel_rfl) (by kernel_rfl) (by kernel_rfl) (fun _ _ _ h => h) (Or.inl ⟨by rfl, ?_⟩) hS ?_; rotate_left; (focus (intro w9 hSw; (try dsimp only at hSw); go_simp; try with_reducible rfl)); simp only [Act.put, List.setIfInBounds_toArray, List.set_cons_zero, List.set_cons_succ]
      refine wpAnyH_take (i := 8) (oi := ⟨some 71, _, _, _, _, _⟩) (v := ?_) rfl (by kernel_rfl) (by kernel_rfl) (by kernel_rfl) (fun _ _ _ h => h) (Or.inl ⟨by rfl, ?_⟩) hS ?_; rotate_left; (focus (intro w9 hSw; (try dsimp only at hSw); have q0 := HC0.out w9 hSw; go_simp; try with_reducible rfl)); simp only [Act.put, List.setIfInBounds_toArray, List.set_cons_zero, List.set_cons_succ]
      refine wpAnyH_take (i := 9) (oi := ⟨some 72, _, _, _, _, _⟩) (v := ?_) rfl (by kernel_rfl) (by kernel_rfl) (by kernel_rfl) (fun _ _ _ h => h) (Or.inl ⟨by rfl, ?_⟩) hS ?_; rotate_left; (focus (intro w9 hSw; (try dsimp only at hSw); go_simp; try with_reducible rfl)); simp only [Act.put, List.setIfInBounds_toArray, List.set_cons_zero, List.set_cons_succ]
      refine wpAnyH_take (i := 10) (oi := ⟨some 73, _, _, _, _, _⟩) (v := (.int .i64 (G.length : Int))) rfl (by kernel_rfl) (by kernel_rfl) (by kernel_rfl) (fun _ _ _ h => h) (Or.inl ⟨by rfl, ?_⟩) hS ?_; (focus (intro w9 hSw; (try dsimp only at hSw); have q0 := FW5.out; have q1 := FW6.out; go_simp; try rfl)); simp only [Act.put, List.setIfInBounds_toArray, List.set_cons_zero, List.set_cons_succ]
      refine wpAnyH_take (i := 11) (oi := ⟨some 74, _, _, _, _, _⟩) (v := (.pointer (some ⟨g5, G.length * 4, none⟩))) rfl (by kernel_rfl) (by kernel_rfl) (by kernel_rfl) (fun _ _ _ h => h) (Or.inl ⟨by rfl, ?_⟩) hS ?_; (focus (intro w9 hSw; (try dsimp only at hSw); have q0 := HIX.out w9; go_simp; try rfl)); simp only [Act.put, List.setIfInBounds_toArray, List.set_cons_zero, List.set_cons_succ]
      refine wpAnyH_take (i := 12) (oi := ⟨some 75, _, _, _, _, _⟩) (v := ?_) rfl (by kernel_rfl) (by kernel_rfl) (by kernel_rfl) (fun _ _ _ h => h) (Or.inl ⟨by rfl, ?_⟩) hS ?_; rotate_left; (focus (intro w9 hSw; (try dsimp only at hSw); go_simp; try with_reducible rfl)); simp only [Act.put, List.setIfInBounds_toArray, List.set_cons_zero, List.set_cons_succ]
      refine wpAnyH_take (i := 13) (oi := ⟨some 76, _, _, _, _, _⟩) (v := ?_) rfl (by kernel_rfl) (by kernel_rfl) (by kernel_rfl) (fun _ _ _ h => h) (Or.inl ⟨by rfl, ?_⟩) hS ?_; rotate_left; (focus (intro w9 hSw; (try dsimp only at hSw); go_simp; try with_reducible rfl)); simp only [Act.put, List.setIfInBounds_toArray, List.set_cons_zero, List.set_cons_succ]
      refine wpAnyH_ready (rs := [14]) (by kernel_rfl) (by simp) (AllReadyH.cons (o := ⟨none, _, _, _, _, _⟩) rfl (fun K hK => ?_) AllReadyH.nil)
      have q0 : w7.cell? ⟨gB, 1, none⟩ = some (lastP lv) := by rw [cell_of_row _ _ _ _ _ _ G7.out]; rfl
      have q1 : w7.frozen? ⟨gB, 1, none⟩ = false := frozen_of_row _ _ _ _ _ G7.out
      have G8 := Lib.hid (gat_put1 G7.out (.pointer (some ⟨g5, G.length * 4, none⟩)))
      have O8 := Lib.hid (O7.out.kept (gat_set w7 gB 1 (.pointer (some ⟨g5, G.length * 4, none⟩))) (.inr (fun e => by have := own_base O7.out e; have := HGB.out; omega)))
      have K8 := Lib.hid (K7.out.set (j := 1) (.pointer (some ⟨g5, G.length * 4, none⟩)))
      go_simp
      refine hK.out _ _ (.inr G8.out) (fun hS => ?_)
      clear hK K q0 q1 hS
      try simp only [Act.put, List.setIfInBounds_toArray, List.set_cons_zero, List.set_cons_succ]
      refine wpAnyH_done (by kernel_rfl) ?_ _
      go_wp2
      have FV := HV.out (G ++ [(⟨pc, pf, pl, pt⟩ : Pc)]) HPA.out _ ⟨_, by have h := G8.out; exact lastP_new h, by rw [List.length_append]; exact O8.out⟩ K8.out
      first | exact FV | (go_end0; exact FV) | (refine bodyPost_ret (v := .tuple #[]) (by simp [results, Tryd.results29]) rfl FV) | (exact ⟨rfl, .tuple #[], by simp [results, Tryd.results29], FV⟩)
    · refine step_bsliceK (K := KPc) rfl (.tmp 58) rfl (⟨pc, pf, pl, pt⟩ : Pc) rfl rfl Tryd.underlying22 sizePc zeroPc nPc ?_
      have A4 := Lib.hid (A3.out.alloc (.cells (KPc.cs (⟨pc, pf, pl, pt⟩ : Pc)).toArray 44))
      refine hK.out _ _ ((Below.heap_alloc _ _ _ (Array.getElem?_eq_some_iff.1 A3.out.pb).1).trans hS) (fun hS => ?_)
      clear hK K
      try simp only [Act.put, List.setIfInBounds_toArray, List.set_cons_zero, List.set_cons_succ]
      refine wpAnyH_ready (rs := [4]) (by kernel_rfl) (by simp) (AllReadyH.cons (o := ⟨some 57, _, _, _, _, _⟩) rfl (fun K hK => ?_) AllReadyH.nil)
      have q0 : World.cell? (w3.alloc (.cells (KPc.cs (⟨pc, pf, pl, pt⟩ : Pc)).toArray 44)) ⟨gB, 0, none⟩ = some lv := by rw [cell_of_row _ _ _ _ _ _ A4.out.gat]; rfl
      go_simp
      refine hK.out _ _ hS (fun hS => ?_)
      clear hK K q0
      try simp only [Act.put, List.setIfInBounds_toArray, List.set_cons_zero, List.set_cons_succ]
      refine wpAnyH_ready (rs := [7]) (by kernel_rfl) (by simp) (AllReadyH.cons (o := ⟨some 60, _, _, _, _, _⟩) rfl (fun K hK => ?_) AllReadyH.nil)
      refine step_append_K (K := KPc) (o := ⟨some 60, _, _, _, _, _⟩) rfl _ _ 22 rfl base 44 i0 _ 40 Tryd.underlying22 hi hz0 hz1 hz2 hzl (by omega) lv G (⟨pc, pf, pl, pt⟩ : Pc) rfl A4.out.own HGN.out rfl rfl (by have := A4.out.base; omega) ?_
      intro v5 w5 ho5 hg5
      have P5 := Lib.hid (A4.out.grow ho5 hg5 HLB.out)
      obtain ⟨g5, cap5, hv5, hbg5, hgw5, hjc5, hat5⟩ := own_last (a := G) (p := (⟨pc, pf, pl, pt⟩ : Pc)) rfl ho5
      subst hv5
      have HO5 := Lib.hid ho5
      have HG5 := Lib.hid hbg5
      clear ho5 hg5 hgw5 hjc5 hat5
      refine hK.out _ _ (P5.out.2.1.trans A2.out.pb.symm) (fun hS => ?_)
      clear hK K
      try simp only [Act.put, List.setIfInBounds_toArray, List.set_cons_zero, List.set_cons_succ]
      refine wpAnyH_take (i := 8) (oi := ⟨some 61, _, _, _, _, _⟩) (v := ?_) rfl (by kernel_rfl) (by kernel_rfl) (by kernel_rfl) (fun _ _ _ h => h) (Or.inl ⟨by rfl, ?_⟩) hS ?_; rotate_left; (focus (intro w9 hSw; (try dsimp only at hSw); go_simp; try with_reducible rfl)); simp only [Act.put, List.setIfInBounds_toArray, List.set_cons_zero, List.set_cons_succ]
      refine wpAnyH_take (i := 9) (oi := ⟨some 62, _, _, _, _, _⟩) (v := ?_) rfl (by kernel_rfl) (by kernel_rfl) (by kernel_rfl) (fun _ _ _ h => h) (Or.inl ⟨by rfl, ?_⟩) hS ?_; rotate_left; (focus (intro w9 hSw; (try dsimp only at hSw); go_simp; try with_reducible rfl)); simp only [Act.put, List.setIfInBounds_toArray, List.set_cons_zero, List.set_cons_succ]
      refine wpAnyH_ready (rs := [10]) (by kernel_rfl) (by simp) (AllReadyH.cons (o := ⟨none, _, _, _, _, _⟩) rfl (fun K hK => ?_) AllReadyH.nil)
      have q0 : w5.cell? ⟨gB, 0, none⟩ = some lv := by rw [cell_of_row _ _ _ _ _ _ P5.out.1]; rfl
      have q1 : w5.frozen? ⟨gB, 0, none⟩ = false := frozen_of_row _ _ _ _ _ P5.out.1
      have G6 := Lib.hid (gat_put0 P5.out.1 (.slice (some ⟨g5, 0, none⟩) (G.length + 1) cap5))
      have O6 := Lib.hid (HO5.out.kept (gat_set w5 gB 0 (.slice (some ⟨g5, 0, none⟩) (G.length + 1) cap5)) (.inr (fun e => by have := own_base HO5.out e; have := HGB.out; omega)))
      have K6 := Lib.hid (P5.out.2.2.set (j := 0) (.slice (some ⟨g5, 0, none⟩) (G.length + 1) cap5))
      go_simp
      refine hK.out _ _ ((Below.heap_setCell _ _ _ _ (by have := HPB.out; dsimp only; omega)).trans hS) (fun hS => ?_)
      clear hK K q0 q1 hS
      try simp only [Act.put, List.setIfInBounds_toArray, List.set_cons_zero, List.set_cons_succ]
      refine wpAnyH_done (by kernel_rfl) ?_ _
      generalize w5.setCell ⟨gB, 0, none⟩ (.slice (some ⟨g5, 0, none⟩) (G.length + 1) cap5) = w6 at *
      go_wp2_with fail
      refine wp_region_held_drew (S := fun w' => w'.heap[gB]? = w6.heap[gB]? ∨ w'.heap[gB]? = some (.cells #[.slice (some ⟨g5, 0, none⟩) (G.length + 1) cap5, .pointer (some ⟨g5, G.length * 4, none⟩)] 57)) (by kernel_rfl) (.inl rfl) (fun hS => ?_)
      have G7 := Lib.hid (show (World.drew w6).heap[gB]? = _ from G6.out)
      have O7 := Lib.hid (show (World.drew w6).ownsRow base 44 KPc.n (.slice (some ⟨g5, 0, none⟩) (G.length + 1) cap5) (G.length + 1) ((G ++ [(⟨pc, pf, pl, pt⟩ : Pc)]).flatMap KPc.cs) from O6.out)
      have K7 := Lib.hid (show KeepG gB base w (World.drew w6) from K6.out.drew)
      generalize World.drew w6 = w7 at *
      have HC0 : Hid (∀ w9 : World, (w9.heap[gB]? = w6.heap[gB]? ∨ w9.heap[gB]? = some (.cells #[.slice (some ⟨g5, 0, none⟩) (G.length + 1) cap5, .pointer (some ⟨g5, G.length * 4, none⟩)] 57)) → w9.cell? ⟨gB, 0, none⟩ = some (.slice (some ⟨g5, 0, none⟩) (G.length + 1) cap5)) := Lib.hid (fun w9 h => by
        rcases h with h | h
        · rw [cell_of_row _ _ _ _ _ _ (h.trans G6.out)]; rfl
        · rw [cell_of_row _ _ _ _ _ _ h]; rfl)
      have FW5 : Hid (IntKind.i64.wrap (((G.length + 1 : Nat) : Int) - 1) = (G.length : Int)) := Lib.hid (by rw [IntWalk.i64_in _ (by have := HGN.out; omega)]; omega)
      have FW6 : Hid (IntKind.i64.wrap (G.length : Int) = (G.length : Int)) := Lib.hid (IntWalk.i64_in _ (by have := HGN.out; omega))
      have HIX := Lib.hid (fun w9 => pc_ix g5 G.length cap5 (G.length : Int) rfl w9)
      refine wpAnyH_take (i := 0) (oi := ⟨some 63, _, _, _, _, _⟩) (v := ?_) rfl (by kernel_rfl) (by kernel_rfl) (by kernel_rfl) (fun _ _ _ h => h) (Or.inl ⟨by rfl, ?_⟩) hS ?_; rotate_left; (focus (intro w9 hSw; (try dsimp only at hSw); go_simp; try with_reducible rfl)); simp only [Act.put, List.setIfInBounds_toArray, List.set_cons_zero, List.set_cons_succ]
      refine wpAnyH_take (i := 1) (oi := ⟨some 64, _, _, _, _, _⟩) (v := ?_) rfl (by kernel_rfl) (by kernel_rfl) (by kernel_rfl) (fun _ _ _ h => h) (Or.inl ⟨by rfl, ?_⟩) hS ?_; rotate_left; (focus (intro w9 hSw; (try dsimp only at hSw); go_simp; try with_reducible rfl)); simp only [Act.put, List.setIfInBounds_toArray, List.set_cons_zero, List.set_cons_succ]
      refine wpAnyH_take (i := 2) (oi := ⟨some 65, _, _, _, _, _⟩) (v := ?_) rfl (by kernel_rfl) (by kernel_rfl) (by kernel_rfl) (fun _ _ _ h => h) (Or.inl ⟨by rfl, ?_⟩) hS ?_; rotate_left; (focus (intro w9 hSw; (try dsimp only at hSw); go_simp; try with_reducible rfl)); simp only [Act.put, List.setIfInBounds_toArray, List.set_cons_zero, List.set_cons_succ]
      refine wpAnyH_take (i := 3) (oi := ⟨some 66, _, _, _, _, _⟩) (v := ?_) rfl (by kernel_rfl) (by kernel_rfl) (by kernel_rfl) (fun _ _ _ h => h) (Or.inl ⟨by rfl, ?_⟩) hS ?_; rotate_left; (focus (intro w9 hSw; (try dsimp only at hSw); go_simp; try with_reducible rfl)); simp only [Act.put, List.setIfInBounds_toArray, List.set_cons_zero, List.set_cons_succ]
      refine wpAnyH_take (i := 4) (oi := ⟨some 67, _, _, _, _, _⟩) (v := ?_) rfl (by kernel_rfl) (by kernel_rfl) (by kernel_rfl) (fun _ _ _ h => h) (Or.inl ⟨by rfl, ?_⟩) hS ?_; rotate_left; (focus (intro w9 hSw; (try dsimp only at hSw); have q0 := HC0.out w9 hSw; go_simp; try with_reducible rfl)); simp only [Act.put, List.setIfInBounds_toArray, List.set_cons_zero, List.set_cons_succ]
      refine wpAnyH_take (i := 5) (oi := ⟨some 68, _, _, _, _, _⟩) (v := ?_) rfl (by kernel_rfl) (by kernel_rfl) (by kernel_rfl) (fun _ _ _ h => h) (Or.inl ⟨by rfl, ?_⟩) hS ?_; rotate_left; (focus (intro w9 hSw; (try dsimp only at hSw); go_simp; try with_reducible rfl)); simp only [Act.put, List.setIfInBounds_toArray, List.set_cons_zero, List.set_cons_succ]
      refine wpAnyH_take (i := 6) (oi := ⟨some 69, _, _, _, _, _⟩) (v := ?_) rfl (by kernel_rfl) (by kernel_rfl) (by kernel_rfl) (fun _ _ _ h => h) (Or.inl ⟨by rfl, ?_⟩) hS ?_; rotate_left; (focus (intro w9 hSw; (try dsimp only at hSw); go_simp; try with_reducible rfl)); simp only [Act.put, List.setIfInBounds_toArray, List.set_cons_zero, List.set_cons_succ]
      refine wpAnyH_take (i := 7) (oi := ⟨some 70, _, _, _, _, _⟩) (v := ?_) rfl (by kernel_rfl) (by kernel_rfl) (by kernel_rfl) (fun _ _ _ h => h) (Or.inl ⟨by rfl, ?_⟩) hS ?_; rotate_left; (focus (intro w9 hSw; (try dsimp only at hSw); go_simp; try with_reducible rfl)); simp only [Act.put, List.setIfInBounds_toArray, List.set_cons_zero, List.set_cons_succ]
      refine wpAnyH_take (i := 8) (oi := ⟨some 71, _, _, _, _, _⟩) (v := ?_) rfl (by kernel_rfl) (by kernel_rfl) (by kernel_rfl) (fun _ _ _ h => h) (Or.inl ⟨by rfl, ?_⟩) hS ?_; rotate_left; (focus (intro w9 hSw; (try dsimp only at hSw); have q0 := HC0.out w9 hSw; go_simp; try with_reducible rfl)); simp only [Act.put, List.setIfInBounds_toArray, List.set_cons_zero, List.set_cons_succ]
      refine wpAnyH_take (i := 9) (oi := ⟨some 72, _, _, _, _, _⟩) (v := ?_) rfl (by kernel_rfl) (by kernel_rfl) (by kernel_rfl) (fun _ _ _ h => h) (Or.inl ⟨by rfl, ?_⟩) hS ?_; rotate_left; (focus (intro w9 hSw; (try dsimp only at hSw); go_simp; try with_reducible rfl)); simp only [Act.put, List.setIfInBounds_toArray, List.set_cons_zero, List.set_cons_succ]
      refine wpAnyH_take (i := 10) (oi := ⟨some 73, _, _, _, _, _⟩) (v := (.int .i64 (G.length : Int))) rfl (by kernel_rfl) (by kernel_rfl) (by kernel_rfl) (fun _ _ _ h => h) (Or.inl ⟨by rfl, ?_⟩) hS ?_; (focus (intro w9 hSw; (try dsimp only at hSw); have q0 := FW5.out; have q1 := FW6.out; go_simp; try rfl)); simp only [Act.put, List.setIfInBounds_toArray, List.set_cons_zero, List.set_cons_succ]
      refine wpAnyH_take (i := 11) (oi := ⟨some 74, _, _, _, _, _⟩) (v := (.pointer (some ⟨g5, G.length * 4, none⟩))) rfl (by kernel_rfl) (by kernel_rfl) (by kernel_rfl) (fun _ _ _ h => h) (Or.inl ⟨by rfl, ?_⟩) hS ?_; (focus (intro w9 hSw; (try dsimp only at hSw); have q0 := HIX.out w9; go_simp; try rfl)); simp only [Act.put, List.setIfInBounds_toArray, List.set_cons_zero, List.set_cons_succ]
      refine wpAnyH_take (i := 12) (oi := ⟨some 75, _, _, _, _, _⟩) (v := ?_) rfl (by kernel_rfl) (by kernel_rfl) (by kernel_rfl) (fun _ _ _ h => h) (Or.inl ⟨by rfl, ?_⟩) hS ?_; rotate_left; (focus (intro w9 hSw; (try dsimp only at hSw); go_simp; try with_reducible rfl)); simp only [Act.put, List.setIfInBounds_toArray, List.set_cons_zero, List.set_cons_succ]
      refine wpAnyH_take (i := 13) (oi := ⟨some 76, _, _, _, _, _⟩) (v := ?_) rfl (by kernel_rfl) (by kernel_rfl) (by kernel_rfl) (fun _ _ _ h => h) (Or.inl ⟨by rfl, ?_⟩) hS ?_; rotate_left; (focus (intro w9 hSw; (try dsimp only at hSw); go_simp; try with_reducible rfl)); simp only [Act.put, List.setIfInBounds_toArray, List.set_cons_zero, List.set_cons_succ]
      refine wpAnyH_ready (rs := [14]) (by kernel_rfl) (by simp) (AllReadyH.cons (o := ⟨none, _, _, _, _, _⟩) rfl (fun K hK => ?_) AllReadyH.nil)
      have q0 : w7.cell? ⟨gB, 1, none⟩ = some (lastP lv) := by rw [cell_of_row _ _ _ _ _ _ G7.out]; rfl
      have q1 : w7.frozen? ⟨gB, 1, none⟩ = false := frozen_of_row _ _ _ _ _ G7.out
      have G8 := Lib.hid (gat_put1 G7.out (.pointer (some ⟨g5, G.length * 4, none⟩)))
      have O8 := Lib.hid (O7.out.kept (gat_set w7 gB 1 (.pointer (some ⟨g5, G.length * 4, none⟩))) (.inr (fun e => by have := own_base O7.out e; have := HGB.out; omega)))
      have K8 := Lib.hid (K7.out.set (j := 1) (.pointer (some ⟨g5, G.length * 4, none⟩)))
      go_simp
      refine hK.out _ _ (.inr G8.out) (fun hS => ?_)
      clear hK K q0 q1 hS
      try simp only [Act.put, List.setIfInBounds_toArray, List.set_cons_zero, List.set_cons_succ]
      refine wpAnyH_done (by kernel_rfl) ?_ _
      go_wp2
      have FV := HV.out (G ++ [(⟨pc, pf, pl, pt⟩ : Pc)]) HPA.out _ ⟨_, by have h := G8.out; exact lastP_new h, by rw [List.length_append]; exact O8.out⟩ K8.out
      first | exact FV | (go_end0; exact FV) | (refine bodyPost_ret (v := .tuple #[]) (by simp [results, Tryd.results29]) rfl FV) | (exact ⟨rfl, .tuple #[], by simp [results, Tryd.results29], FV⟩)
  · rw [List.concat_eq_append] at *
    obtain ⟨j, hj⟩ : ∃ j, init.length = j := ⟨_, rfl⟩
    have HJ := Lib.hid hj
    have hlen : (init ++ [x]).length = j + 1 := by rw [List.length_append, hj]; rfl
    have hown2 := hown
    rw [hlen] at hown2
    obtain ⟨g, cap, hv, hbg, hgw, _, hat⟩ := own_last hj hown2
    subst hv
    have hx := hgs x (by simp)
    have hat1 := Kind.at_same hat ((show (w1.heap[g]? = w.heap[g]?) by rw [hw1]; exact Below.heap_alloc _ _ _ (by omega)))
    have LX := Lib.hid (show g < w1.heap.size by rw [hw1, World.size_alloc]; omega)
    obtain ⟨d0, d1, d2, d3⟩ := pc_cells hat1
    obtain ⟨xc, xf, xl, xt⟩ := x
    dsimp only at hx d0 d1 d2 d3
    have D0 := Lib.hid d0
    have D1 := Lib.hid d1
    have D2 := Lib.hid d2
    have FW1 : Hid (IntKind.i64.wrap (xf + xl) = xf + xl) := Lib.hid (IntWalk.i64_in _ (by omega))
    clear d0 d1 d2 d3
    have FW : Hid (IntKind.i64.wrap (xl + pl) = xl + pl) := Lib.hid (IntWalk.i64_in _ (by omega))
    have HGL := Lib.hid hbg
    have HPX := Lib.hid hgw
    by_cases hon : xc = pc ∧ xf + xl = pf
    · have HPA := Lib.hid (padd_on (a := init) (x := ⟨xc, xf, xl, xt⟩) (p := ⟨pc, pf, pl, pt⟩) hon)
      have HE := Lib.hid hon.2
      obtain rfl : pc = xc := hon.1.symm
      have HC := Lib.hid (rfl : pc = pc)
      have HPB := Lib.hid (show g < w.heap.size from hgw)
      have HLEN := Lib.hid hlen
      have HLP := Lib.hid (show lastP (Value.slice (some ⟨g, 0, none⟩) (j + 1) cap) = .pointer (some ⟨g, j * 4, none⟩) by simp [lastP])
      clear hon
      clear hgs hown hown0 hown2 hat hat1 hlen hj hbg hgw hx hp
      have K0 : Hid (w1.cell? ⟨w.heap.size, 0, none⟩ = some (.bool pc)) := Lib.hid (by rw [cell_of_row _ _ _ _ _ _ A1.out.pb]; rfl)
      have K1 : Hid (w1.cell? ⟨w.heap.size, 1, none⟩ = some (.int .i64 pf)) := Lib.hid (by rw [cell_of_row _ _ _ _ _ _ A1.out.pb]; rfl)
      have K2 : Hid (w1.cell? ⟨w.heap.size, 2, none⟩ = some (.int .i64 pl)) := Lib.hid (by rw [cell_of_row _ _ _ _ _ _ A1.out.pb]; rfl)
      have K3 : Hid (w1.cell? ⟨w.heap.size, 3, none⟩ = some (.string pt)) := Lib.hid (by rw [cell_of_row _ _ _ _ _ _ A1.out.pb]; rfl)
      have K5 : Hid (w1.cell? ⟨gB, 1, none⟩ = some (.pointer (some ⟨g, j * 4, none⟩))) := Lib.hid (by rw [cell_of_row _ _ _ _ _ _ A1.out.gat, ← HLP.out]; rfl)
      have LG := Lib.hid (Array.getElem?_eq_some_iff.1 A1.out.gat).1
      have LB := Lib.hid (Array.getElem?_eq_some_iff.1 A1.out.pb).1
      go_enter Tryd.func29, Tryd.ntmps29
      go_wp2_with fail
      rw [← hw1]
      clear hw1
      refine wp_region_G _ (by kernel_rfl) ?_
      refine wpG_take (i := 0) (oi := ⟨some 4, _, _, _, _, _⟩) (v := ?_) rfl (by kernel_rfl) (by kernel_rfl) (by kernel_rfl) (Or.inl ⟨by rfl, unib_val ?_⟩) ?_; rotate_left; (focus (intro w9 hSw; go_simp; try with_reducible rfl)); simp only [Act.put, List.setIfInBounds_toArray, List.set_cons_zero, List.set_cons_succ]
      refine wpG_take (i := 1) (oi := ⟨some 5, _, _, _, _, _⟩) (v := ?_) rfl (by kernel_rfl) (by kernel_rfl) (by kernel_rfl) (Or.inl ⟨by rfl, unib_val ?_⟩) ?_; rotate_left; (focus (intro w9 hSw; go_simp; try with_reducible rfl)); simp only [Act.put, List.setIfInBounds_toArray, List.set_cons_zero, List.set_cons_succ]
      refine wpG_take (i := 2) (oi := ⟨some 6, _, _, _, _, _⟩) (v := ?_) rfl (by kernel_rfl) (by kernel_rfl) (by kernel_rfl) (Or.inl ⟨by rfl, unib_val ?_⟩) ?_; rotate_left; (focus (intro w9 hSw; go_simp; try with_reducible rfl)); simp only [Act.put, List.setIfInBounds_toArray, List.set_cons_zero, List.set_cons_succ]
      refine wpG_take (i := 3) (oi := ⟨some 7, _, _, _, _, _⟩) (v := ?_) rfl (by kernel_rfl) (by kernel_rfl) (by kernel_rfl) (Or.inl ⟨by rfl, unib_val ?_⟩) ?_; rotate_left; (focus (intro w9 hSw; have q0 := (hSw.cell (p := ⟨gB, 1, none⟩) LG.out).trans K5.out; go_simp; try with_reducible rfl)); simp only [Act.put, List.setIfInBounds_toArray, List.set_cons_zero, List.set_cons_succ]
      refine wpG_take (i := 4) (oi := ⟨some 8, _, _, _, _, _⟩) (v := (.bool true)) rfl (by kernel_rfl) (by kernel_rfl) (by kernel_rfl) (Or.inl ⟨by rfl, unib_val ?_⟩) ?_; (focus (intro w9 hSw; go_simp; try rfl)); simp only [Act.put, List.setIfInBounds_toArray, List.set_cons_zero, List.set_cons_succ]
      refine wpG_take (i := 5) (oi := ⟨some 9, _, _, _, _, _⟩) (v := ?_) rfl (by kernel_rfl) (by kernel_rfl) (by kernel_rfl) (Or.inl ⟨by rfl, unib_val ?_⟩) ?_; rotate_left; (focus (intro w9 hSw; go_simp; try with_reducible rfl)); simp only [Act.put, List.setIfInBounds_toArray, List.set_cons_zero, List.set_cons_succ]
      refine wpG_take (i := 6) (oi := ⟨some 10, _, _, _, _, _⟩) (v := ?_) rfl (by kernel_rfl) (by kernel_rfl) (by kernel_rfl) (Or.inl ⟨by rfl, unib_val ?_⟩) ?_; rotate_left; (focus (intro w9 hSw; go_simp; try with_reducible rfl)); simp only [Act.put, List.setIfInBounds_toArray, List.set_cons_zero, List.set_cons_succ]
      refine wpG_take (i := 7) (oi := ⟨some 11, _, _, _, _, _⟩) (v := ?_) rfl (by kernel_rfl) (by kernel_rfl) (by kernel_rfl) (Or.inl ⟨by rfl, unib_val ?_⟩) ?_; rotate_left; (focus (intro w9 hSw; go_simp; try with_reducible rfl)); simp only [Act.put, List.setIfInBounds_toArray, List.set_cons_zero, List.set_cons_succ]
      refine wpG_take (i := 8) (oi := ⟨some 12, _, _, _, _, _⟩) (v := ?_) rfl (by kernel_rfl) (by kernel_rfl) (by kernel_rfl) (Or.inl ⟨by rfl, unib_val ?_⟩) ?_; rotate_left; (focus (intro w9 hSw; go_simp; try with_reducible rfl)); simp only [Act.put, List.setIfInBounds_toArray, List.set_cons_zero, List.set_cons_succ]
      refine wpG_take (i := 9) (oi := ⟨some 13, _, _, _, _, _⟩) (v := ?_) rfl (by kernel_rfl) (by kernel_rfl) (by kernel_rfl) (Or.inl ⟨by rfl, unib_val ?_⟩) ?_; rotate_left; (focus (intro w9 hSw; have q0 := (hSw.cell (p := ⟨gB, 1, none⟩) LG.out).trans K5.out; go_simp; try with_reducible rfl)); simp only [Act.put, List.setIfInBounds_toArray, List.set_cons_zero, List.set_cons_succ]
      refine wpG_take (i := 10) (oi := ⟨some 14, _, _, _, _, _⟩) (v := ?_) rfl (by kernel_rfl) (by kernel_rfl) (by kernel_rfl) (Or.inl ⟨by rfl, unib_val ?_⟩) ?_; rotate_left; (focus (intro w9 hSw; go_simp; try with_reducible rfl)); simp only [Act.put, List.setIfInBounds_toArray, List.set_cons_zero, List.set_cons_succ]
      refine wpG_take (i := 11) (oi := ⟨some 15, _, _, _, _, _⟩) (v := ?_) rfl (by kernel_rfl) (by kernel_rfl) (by kernel_rfl) (Or.inl ⟨by rfl, unib_val ?_⟩) ?_; rotate_left; (focus (intro w9 hSw; go_simp; try with_reducible rfl)); simp only [Act.put, List.setIfInBounds_toArray, List.set_cons_zero, List.set_cons_succ]
      refine wpG_take (i := 12) (oi := ⟨some 16, _, _, _, _, _⟩) (v := ?_) rfl (by kernel_rfl) (by kernel_rfl) (by kernel_rfl) (Or.inl ⟨by rfl, unib_val ?_⟩) ?_; rotate_left; (focus (intro w9 hSw; have q0 := (hSw.cell (p := ⟨g, j * 4, none⟩) LX.out).trans D0.out; go_simp; try with_reducible rfl)); simp only [Act.put, List.setIfInBounds_toArray, List.set_cons_zero, List.set_cons_succ]
      refine wpG_take (i := 13) (oi := ⟨some 17, _, _, _, _, _⟩) (v := ?_) rfl (by kernel_rfl) (by kernel_rfl) (by kernel_rfl) (Or.inl ⟨by rfl, unib_val ?_⟩) ?_; rotate_left; (focus (intro w9 hSw; go_simp; try with_reducible rfl)); simp only [Act.put, List.setIfInBounds_toArray, List.set_cons_zero, List.set_cons_succ]
      refine wpG_take (i := 14) (oi := ⟨some 18, _, _, _, _, _⟩) (v := ?_) rfl (by kernel_rfl) (by kernel_rfl) (by kernel_rfl) (Or.inl ⟨by rfl, unib_val ?_⟩) ?_; rotate_left; (focus (intro w9 hSw; have q0 := (hSw.cell (p := ⟨w.heap.size, 0, none⟩) LB.out).trans K0.out; go_simp; try with_reducible rfl)); simp only [Act.put, List.setIfInBounds_toArray, List.set_cons_zero, List.set_cons_succ]
      refine wpG_take (i := 15) (oi := ⟨some 19, _, _, _, _, _⟩) (v := (.bool true)) rfl (by kernel_rfl) (by kernel_rfl) (by kernel_rfl) (Or.inl ⟨by rfl, unib_val ?_⟩) ?_; (focus (intro w9 hSw; have q0 := HC.out; go_simp; (try simp [q0]); try rfl)); simp only [Act.put, List.setIfInBounds_toArray, List.set_cons_zero, List.set_cons_succ]
      refine wpG_take (i := 16) (oi := ⟨some 20, _, _, _, _, _⟩) (v := ?_) rfl (by kernel_rfl) (by kernel_rfl) (by kernel_rfl) (Or.inl ⟨by rfl, unib_val ?_⟩) ?_; rotate_left; (focus (intro w9 hSw; go_simp; try with_reducible rfl)); simp only [Act.put, List.setIfInBounds_toArray, List.set_cons_zero, List.set_cons_succ]
      refine wpG_take (i := 17) (oi := ⟨some 21, _, _, _, _, _⟩) (v := ?_) rfl (by kernel_rfl) (by kernel_rfl) (by kernel_rfl) (Or.inl ⟨by rfl, unib_val ?_⟩) ?_; rotate_left; (focus (intro w9 hSw; go_simp; try with_reducible rfl)); simp only [Act.put, List.setIfInBounds_toArray, List.set_cons_zero, List.set_cons_succ]
      refine wpG_take (i := 18) (oi := ⟨some 22, _, _, _, _, _⟩) (v := ?_) rfl (by kernel_rfl) (by kernel_rfl) (by kernel_rfl) (Or.inl ⟨by rfl, unib_val ?_⟩) ?_; rotate_left; (focus (intro w9 hSw; go_simp; try with_reducible rfl)); simp only [Act.put, List.setIfInBounds_toArray, List.set_cons_zero, List.set_cons_succ]
      refine wpG_take (i := 19) (oi := ⟨some 23, _, _, _, _, _⟩) (v := ?_) rfl (by kernel_rfl) (by kernel_rfl) (by kernel_rfl) (Or.inl ⟨by rfl, unib_val ?_⟩) ?_; rotate_left; (focus (intro w9 hSw; go_simp; try with_reducible rfl)); simp only [Act.put, List.setIfInBounds_toArray, List.set_cons_zero, List.set_cons_succ]
      refine wpG_take (i := 20) (oi := ⟨some 24, _, _, _, _, _⟩) (v := ?_) rfl (by kernel_rfl) (by kernel_rfl) (by kernel_rfl) (Or.inl ⟨by rfl, unib_val ?_⟩) ?_; rotate_left; (focus (intro w9 hSw; go_simp; try with_reducible rfl)); simp only [Act.put, List.setIfInBounds_toArray, List.set_cons_zero, List.set_cons_succ]
      refine wpG_take (i := 21) (oi := ⟨some 25, _, _, _, _, _⟩) (v := ?_) rfl (by kernel_rfl) (by kernel_rfl) (by kernel_rfl) (Or.inl ⟨by rfl, unib_val ?_⟩) ?_; rotate_left; (focus (intro w9 hSw; have q0 := (hSw.cell (p := ⟨gB, 1, none⟩) LG.out).trans K5.out; go_simp; try with_reducible rfl)); simp only [Act.put, List.setIfInBounds_toArray, List.set_cons_zero, List.set_cons_succ]
      refine wpG_take (i := 22) (oi := ⟨some 26, _, _, _, _, _⟩) (v := ?_) rfl (by kernel_rfl) (by kernel_rfl) (by kernel_rfl) (Or.inl ⟨by rfl, unib_val ?_⟩) ?_; rotate_left; (focus (intro w9 hSw; go_simp; try with_reducible rfl)); simp only [Act.put, List.setIfInBounds_toArray, List.set_cons_zero, List.set_cons_succ]
      refine wpG_take (i := 23) (oi := ⟨some 27, _, _, _, _, _⟩) (v := ?_) rfl (by kernel_rfl) (by kernel_rfl) (by kernel_rfl) (Or.inl ⟨by rfl, unib_val ?_⟩) ?_; rotate_left; (focus (intro w9 hSw; go_simp; try with_reducible rfl)); simp only [Act.put, List.setIfInBounds_toArray, List.set_cons_zero, List.set_cons_succ]
      refine wpG_take (i := 24) (oi := ⟨some 28, _, _, _, _, _⟩) (v := ?_) rfl (by kernel_rfl) (by kernel_rfl) (by kernel_rfl) (Or.inl ⟨by rfl, unib_val ?_⟩) ?_; rotate_left; (focus (intro w9 hSw; have q0 := (hSw.cell (p := ⟨g, j * 4 + 1, none⟩) LX.out).trans D1.out; go_simp; try with_reducible rfl)); simp only [Act.put, List.setIfInBounds_toArray, List.set_cons_zero, List.set_cons_succ]
      refine wpG_take (i := 25) (oi := ⟨some 29, _, _, _, _, _⟩) (v := ?_) rfl (by kernel_rfl) (by kernel_rfl) (by kernel_rfl) (Or.inl ⟨by rfl, unib_val ?_⟩) ?_; rotate_left; (focus (intro w9 hSw; go_simp; try with_reducible rfl)); simp only [Act.put, List.setIfInBounds_toArray, List.set_cons_zero, List.set_cons_succ]
      refine wpG_take (i := 26) (oi := ⟨some 30, _, _, _, _, _⟩) (v := ?_) rfl (by kernel_rfl) (by kernel_rfl) (by kernel_rfl) (Or.inl ⟨by rfl, unib_val ?_⟩) ?_; rotate_left; (focus (intro w9 hSw; go_simp; try with_reducible rfl)); simp only [Act.put, List.setIfInBounds_toArray, List.set_cons_zero, List.set_cons_succ]
      refine wpG_take (i := 27) (oi := ⟨some 31, _, _, _, _, _⟩) (v := ?_) rfl (by kernel_rfl) (by kernel_rfl) (by kernel_rfl) (Or.inl ⟨by rfl, unib_val ?_⟩) ?_; rotate_left; (focus (intro w9 hSw; go_simp; try with_reducible rfl)); simp only [Act.put, List.setIfInBounds_toArray, List.set_cons_zero, List.set_cons_succ]
      refine wpG_take (i := 28) (oi := ⟨some 32, _, _, _, _, _⟩) (v := ?_) rfl (by kernel_rfl) (by kernel_rfl) (by kernel_rfl) (Or.inl ⟨by rfl, unib_val ?_⟩) ?_; rotate_left; (focus (intro w9 hSw; have q0 := (hSw.cell (p := ⟨gB, 1, none⟩) LG.out).trans K5.out; go_simp; try with_reducible rfl)); simp only [Act.put, List.setIfInBounds_toArray, List.set_cons_zero, List.set_cons_succ]
      refine wpG_take (i := 29) (oi := ⟨some 33, _, _, _, _, _⟩) (v := ?_) rfl (by kernel_rfl) (by kernel_rfl) (by kernel_rfl) (Or.inl ⟨by rfl, unib_val ?_⟩) ?_; rotate_left; (focus (intro w9 hSw; go_simp; try with_reducible rfl)); simp only [Act.put, List.setIfInBounds_toArray, List.set_cons_zero, List.set_cons_succ]
      refine wpG_take (i := 30) (oi := ⟨some 34, _, _, _, _, _⟩) (v := ?_) rfl (by kernel_rfl) (by kernel_rfl) (by kernel_rfl) (Or.inl ⟨by rfl, unib_val ?_⟩) ?_; rotate_left; (focus (intro w9 hSw; go_simp; try with_reducible rfl)); simp only [Act.put, List.setIfInBounds_toArray, List.set_cons_zero, List.set_cons_succ]
      refine wpG_take (i := 31) (oi := ⟨some 35, _, _, _, _, _⟩) (v := ?_) rfl (by kernel_rfl) (by kernel_rfl) (by kernel_rfl) (Or.inl ⟨by rfl, unib_val ?_⟩) ?_; rotate_left; (focus (intro w9 hSw; have q0 := (hSw.cell (p := ⟨g, j * 4 + 2, none⟩) LX.out).trans D2.out; go_simp; try with_reducible rfl)); simp only [Act.put, List.setIfInBounds_toArray, List.set_cons_zero, List.set_cons_succ]
      refine wpG_take (i := 32) (oi := ⟨some 36, _, _, _, _, _⟩) (v := ?_) rfl (by kernel_rfl) (by kernel_rfl) (by kernel_rfl) (Or.inl ⟨by rfl, unib_val ?_⟩) ?_; rotate_left; (focus (intro w9 hSw; have q0 := FW1.out; go_simp; try with_reducible rfl)); simp only [Act.put, List.setIfInBounds_toArray, List.set_cons_zero, List.set_cons_succ]
      refine wpG_take (i := 33) (oi := ⟨some 37, _, _, _, _, _⟩) (v := ?_) rfl (by kernel_rfl) (by kernel_rfl) (by kernel_rfl) (Or.inl ⟨by rfl, unib_val ?_⟩) ?_; rotate_left; (focus (intro w9 hSw; go_simp; try with_reducible rfl)); simp only [Act.put, List.setIfInBounds_toArray, List.set_cons_zero, List.set_cons_succ]
      refine wpG_take (i := 34) (oi := ⟨some 38, _, _, _, _, _⟩) (v := ?_) rfl (by kernel_rfl) (by kernel_rfl) (by kernel_rfl) (Or.inl ⟨by rfl, unib_val ?_⟩) ?_; rotate_left; (focus (intro w9 hSw; have q0 := (hSw.cell (p := ⟨w.heap.size, 1, none⟩) LB.out).trans K1.out; go_simp; try with_reducible rfl)); simp only [Act.put, List.setIfInBounds_toArray, List.set_cons_zero, List.set_cons_succ]
      refine wpG_take (i := 35) (oi := ⟨some 39, _, _, _, _, _⟩) (v := (.bool true)) rfl (by kernel_rfl) (by kernel_rfl) (by kernel_rfl) (Or.inl ⟨by rfl, unib_val ?_⟩) ?_; (focus (intro w9 hSw; have q0 := HE.out; go_simp; (try simp [q0]); try rfl)); simp only [Act.put, List.setIfInBounds_toArray, List.set_cons_zero, List.set_cons_succ]
      refine wpG_take (i := 36) (oi := ⟨some 40, _, _, _, _, _⟩) (v := ?_) rfl (by kernel_rfl) (by kernel_rfl) (by kernel_rfl) (Or.inl ⟨by rfl, unib_val ?_⟩) ?_; rotate_left; (focus (intro w9 hSw; go_simp; try with_reducible rfl)); simp only [Act.put, List.setIfInBounds_toArray, List.set_cons_zero, List.set_cons_succ]
      refine wpG_done (by kernel_rfl) ?_ _
      intro w2 hSw _
      have A2 := Lib.hid (A1.out.below hSw)
      clear hSw
      go_wp2_with fail
      refine wp_region_held_drew (S := fun w' => w'.heap[gB]? = w2.heap[gB]? ∧ w'.heap[w.heap.size]? = w2.heap[w.heap.size]?) (by kernel_rfl) ⟨rfl, rfl⟩ (fun hS => ?_)
      have A3 := Lib.hid (A2.out.drew)
      generalize World.drew _ = w3 at *
      have GC1 := Lib.hid (show w2.cell? ⟨gB, 1, none⟩ = some (.pointer (some ⟨g, j * 4, none⟩)) by rw [cell_of_row _ _ _ _ _ _ A2.out.gat, ← HLP.out]; rfl)
      have PC2 := Lib.hid (show w2.cell? ⟨w.heap.size, 2, none⟩ = some (.int .i64 pl) by rw [cell_of_row _ _ _ _ _ _ A2.out.pb]; rfl)
      refine wpAnyH_take (i := 0) (oi := ⟨some 41, _, _, _, _, _⟩) (v := ?_) rfl (by kernel_rfl) (by kernel_rfl) (by kernel_rfl) (fun _ _ _ h => h) (Or.inl ⟨by rfl, ?_⟩) hS ?_; rotate_left; (focus (intro w9 hSw; (try dsimp only at hSw); go_simp; try with_reducible rfl)); simp only [Act.put, List.setIfInBounds_toArray, List.set_cons_zero, List.set_cons_succ]
      refine wpAnyH_take (i := 1) (oi := ⟨some 42, _, _, _, _, _⟩) (v := ?_) rfl (by kernel_rfl) (by kernel_rfl) (by kernel_rfl) (fun _ _ _ h => h) (Or.inl ⟨by rfl, ?_⟩) hS ?_; rotate_left; (focus (intro w9 hSw; (try dsimp only at hSw); go_simp; try with_reducible rfl)); simp only [Act.put, List.setIfInBounds_toArray, List.set_cons_zero, List.set_cons_succ]
      refine wpAnyH_take (i := 2) (oi := ⟨some 43, _, _, _, _, _⟩) (v := ?_) rfl (by kernel_rfl) (by kernel_rfl) (by kernel_rfl) (fun _ _ _ h => h) (Or.inl ⟨by rfl, ?_⟩) hS ?_; rotate_left; (focus (intro w9 hSw; (try dsimp only at hSw); go_simp; try with_reducible rfl)); simp only [Act.put, List.setIfInBounds_toArray, List.set_cons_zero, List.set_cons_succ]
      refine wpAnyH_take (i := 3) (oi := ⟨some 44, _, _, _, _, _⟩) (v := ?_) rfl (by kernel_rfl) (by kernel_rfl) (by kernel_rfl) (fun _ _ _ h => h) (Or.inl ⟨by rfl, ?_⟩) hS ?_; rotate_left; (focus (intro w9 hSw; (try dsimp only at hSw); have q0 := (World.cell?_of_block hSw.1).trans GC1.out; go_simp; try with_reducible rfl)); simp only [Act.put, List.setIfInBounds_toArray, List.set_cons_zero, List.set_cons_succ]
      refine wpAnyH_take (i := 4) (oi := ⟨some 45, _, _, _, _, _⟩) (v := ?_) rfl (by kernel_rfl) (by kernel_rfl) (by kernel_rfl) (fun _ _ _ h => h) (Or.inl ⟨by rfl, ?_⟩) hS ?_; rotate_left; (focus (intro w9 hSw; (try dsimp only at hSw); go_simp; try with_reducible rfl)); simp only [Act.put, List.setIfInBounds_toArray, List.set_cons_zero, List.set_cons_succ]
      refine wpAnyH_take (i := 5) (oi := ⟨some 46, _, _, _, _, _⟩) (v := ?_) rfl (by kernel_rfl) (by kernel_rfl) (by kernel_rfl) (fun _ _ _ h => h) (Or.inl ⟨by rfl, ?_⟩) hS ?_; rotate_left; (focus (intro w9 hSw; (try dsimp only at hSw); go_simp; try with_reducible rfl)); simp only [Act.put, List.setIfInBounds_toArray, List.set_cons_zero, List.set_cons_succ]
      refine wpAnyH_take (i := 7) (oi := ⟨some 48, _, _, _, _, _⟩) (v := ?_) rfl (by kernel_rfl) (by kernel_rfl) (by kernel_rfl) (fun _ _ _ h => h) (Or.inl ⟨by rfl, ?_⟩) hS ?_; rotate_left; (focus (intro w9 hSw; (try dsimp only at hSw); go_simp; try with_reducible rfl)); simp only [Act.put, List.setIfInBounds_toArray, List.set_cons_zero, List.set_cons_succ]
      refine wpAnyH_take (i := 8) (oi := ⟨some 49, _, _, _, _, _⟩) (v := ?_) rfl (by kernel_rfl) (by kernel_rfl) (by kernel_rfl) (fun _ _ _ h => h) (Or.inl ⟨by rfl, ?_⟩) hS ?_; rotate_left; (focus (intro w9 hSw; (try dsimp only at hSw); have q0 := (World.cell?_of_block hSw.2).trans PC2.out; go_simp; try with_reducible rfl)); simp only [Act.put, List.setIfInBounds_toArray, List.set_cons_zero, List.set_cons_succ]
      refine wpAnyH_ready (rs := [6]) (by kernel_rfl) (by simp) (AllReadyH.cons (o := ⟨some 47, _, _, _, _, _⟩) rfl (fun K hK => ?_) AllReadyH.nil)
      obtain ⟨g', cap', hv', _, hgw3, _, hat3⟩ := own_last HJ.out (by have h := A3.out.own; rw [HLEN.out] at h; exact h)
      simp only [Value.slice.injEq, Option.some.injEq, Addr.mk.injEq, and_true, true_and] at hv'
      obtain ⟨rfl, rfl⟩ := hv'
      have K2 := Lib.hid (pc_cells hat3).2.2.1
      have q0 := K2.out
      dsimp only at q0
      clear hat3 hgw3
      go_simp
      refine hK.out _ _ hS (fun hS => ?_)
      clear hK K q0
      try simp only [Act.put, List.setIfInBounds_toArray, List.set_cons_zero, List.set_cons_succ]
      refine wpAnyH_take (i := 9) (oi := ⟨some 50, _, _, _, _, _⟩) (v := ?_) rfl (by kernel_rfl) (by kernel_rfl) (by kernel_rfl) (fun _ _ _ h => h) (Or.inl ⟨by rfl, ?_⟩) hS ?_; rotate_left; (focus (intro w9 hSw; (try dsimp only at hSw); have q0 := FW.out; go_simp; try with_reducible rfl)); simp only [Act.put, List.setIfInBounds_toArray, List.set_cons_zero, List.set_cons_succ]
      refine wpAnyH_take (i := 10) (oi := ⟨some 51, _, _, _, _, _⟩) (v := ?_) rfl (by kernel_rfl) (by kernel_rfl) (by kernel_rfl) (fun _ _ _ h => h) (Or.inl ⟨by rfl, ?_⟩) hS ?_; rotate_left; (focus (intro w9 hSw; (try dsimp only at hSw); go_simp; try with_reducible rfl)); simp only [Act.put, List.setIfInBounds_toArray, List.set_cons_zero, List.set_cons_succ]
      refine wpAnyH_take (i := 11) (oi := ⟨some 52, _, _, _, _, _⟩) (v := ?_) rfl (by kernel_rfl) (by kernel_rfl) (by kernel_rfl) (fun _ _ _ h => h) (Or.inl ⟨by rfl, ?_⟩) hS ?_; rotate_left; (focus (intro w9 hSw; (try dsimp only at hSw); go_simp; try with_reducible rfl)); simp only [Act.put, List.setIfInBounds_toArray, List.set_cons_zero, List.set_cons_succ]
      refine wpAnyH_ready (rs := [12]) (by kernel_rfl) (by simp) (AllReadyH.cons (o := ⟨none, _, _, _, _, _⟩) rfl (fun K hK => ?_) AllReadyH.nil)
      obtain ⟨hput, hfz⟩ := own_put (p := ⟨pc, xf, xl, xt⟩) (q := ⟨pc, xf, xl + pl, xt⟩) (i := 2) (u := .int .i64 (xl + pl)) HJ.out (by have h := A3.out.own; rw [HLEN.out] at h; exact h) (by decide) rfl
      have FIN := Lib.hid (A3.out.put HGL.out (j * 4 + 2) (.int .i64 (xl + pl)) HGB.out HPB.out (by rw [show (init ++ [(⟨pc, xf, xl + pl, xt⟩ : Pc)]).length = j + 1 by rw [List.length_append, HJ.out]; rfl]; exact hput))
      have q0 := K2.out
      dsimp only at q0
      have q1 := hfz
      clear hput hfz
      go_simp
      refine hK.out _ _ ⟨(Below.heap_setCell _ _ _ _ (by have := HGL.out; have := HGB.out; dsimp only; omega)).trans hS.1, (Below.heap_setCell _ _ _ _ (by have := HPB.out; dsimp only; omega)).trans hS.2⟩ (fun hS => ?_)
      clear hK K q0 q1 hS
      try simp only [Act.put, List.setIfInBounds_toArray, List.set_cons_zero, List.set_cons_succ]
      refine wpAnyH_done (by kernel_rfl) ?_ _
      go_wp2
      have FV := HV.out (init ++ [⟨pc, xf, xl + pl, xt⟩]) HPA.out _ FIN.out.1 FIN.out.2
      first | exact FV | (go_end0; exact FV) | (refine bodyPost_ret (v := .tuple #[]) (by simp [results, Tryd.results29]) rfl FV) | (exact ⟨rfl, .tuple #[], by simp [results, Tryd.results29], FV⟩)
    · have HPA := Lib.hid (padd_new (a := init) (x := ⟨xc, xf, xl, xt⟩) (p := ⟨pc, pf, pl, pt⟩) hon)
      obtain ⟨lv, hlv⟩ : ∃ lv, lv = Value.slice (some ⟨g, 0, none⟩) (j + 1) cap := ⟨_, rfl⟩
      rw [← hlv] at A1 HLB
      have HLP := Lib.hid (show lastP lv = .pointer (some ⟨g, j * 4, none⟩) by rw [hlv]; simp [lastP])
      obtain ⟨G, hGe⟩ : ∃ G : List Pc, G = init ++ [⟨xc, xf, xl, xt⟩] := ⟨_, rfl⟩
      rw [← hGe] at A1 HV HGN HPA
      clear hgs hown hown0 hown2 hat hat1 hlen hj hbg hgw hx hp hlv hGe
      have HPB : Hid (w.heap.size ≠ gB) := Lib.hid (by omega)
      by_cases hc : xc = pc
      · have HE := Lib.hid (show ¬ xf + xl = pf from fun h => hon ⟨hc, h⟩)
        obtain rfl : pc = xc := hc.symm
        have HC := Lib.hid (rfl : pc = pc)
        clear hon hc
        have K0 : Hid (w1.cell? ⟨w.heap.size, 0, none⟩ = some (.bool pc)) := Lib.hid (by rw [cell_of_row _ _ _ _ _ _ A1.out.pb]; rfl)
        have K1 : Hid (w1.cell? ⟨w.heap.size, 1, none⟩ = some (.int .i64 pf)) := Lib.hid (by rw [cell_of_row _ _ _ _ _ _ A1.out.pb]; rfl)
        have K2 : Hid (w1.cell? ⟨w.heap.size, 2, none⟩ = some (.int .i64 pl)) := Lib.hid (by rw [cell_of_row _ _ _ _ _ _ A1.out.pb]; rfl)
        have K3 : Hid (w1.cell? ⟨w.heap.size, 3, none⟩ = some (.string pt)) := Lib.hid (by rw [cell_of_row _ _ _ _ _ _ A1.out.pb]; rfl)
        have K5 : Hid (w1.cell? ⟨gB, 1, none⟩ = some (.pointer (some ⟨g, j * 4, none⟩))) := Lib.hid (by rw [cell_of_row _ _ _ _ _ _ A1.out.gat, ← HLP.out]; rfl)
        have LG := Lib.hid (Array.getElem?_eq_some_iff.1 A1.out.gat).1
        have LB := Lib.hid (Array.getElem?_eq_some_iff.1 A1.out.pb).1
        go_enter Tryd.func29, Tryd.ntmps29
        go_wp2_with fail
        rw [← hw1]
        clear hw1
        refine wp_region_G _ (by kernel_rfl) ?_
        refine wpG_take (i := 0) (oi := ⟨some 4, _, _, _, _, _⟩) (v := ?_) rfl (by kernel_rfl) (by kernel_rfl) (by kernel_rfl) (Or.inl ⟨by rfl, unib_val ?_⟩) ?_; rotate_left; (focus (intro w9 hSw; go_simp; try with_reducible rfl)); simp only [Act.put, List.setIfInBounds_toArray, List.set_cons_zero, List.set_cons_succ]
        refine wpG_take (i := 1) (oi := ⟨some 5, _, _, _, _, _⟩) (v := ?_) rfl (by kernel_rfl) (by kernel_rfl) (by kernel_rfl) (Or.inl ⟨by rfl, unib_val ?_⟩) ?_; rotate_left; (focus (intro w9 hSw; go_simp; try with_reducible rfl)); simp only [Act.put, List.setIfInBounds_toArray, List.set_cons_zero, List.set_cons_succ]
        refine wpG_take (i := 2) (oi := ⟨some 6, _, _, _, _, _⟩) (v := ?_) rfl (by kernel_rfl) (by kernel_rfl) (by kernel_rfl) (Or.inl ⟨by rfl, unib_val ?_⟩) ?_; rotate_left; (focus (intro w9 hSw; go_simp; try with_reducible rfl)); simp only [Act.put, List.setIfInBounds_toArray, List.set_cons_zero, List.set_cons_succ]
        refine wpG_take (i := 3) (oi := ⟨some 7, _, _, _, _, _⟩) (v := ?_) rfl (by kernel_rfl) (by kernel_rfl) (by kernel_rfl) (Or.inl ⟨by rfl, unib_val ?_⟩) ?_; rotate_left; (focus (intro w9 hSw; have q0 := (hSw.cell (p := ⟨gB, 1, none⟩) LG.out).trans K5.out; go_simp; try with_reducible rfl)); simp only [Act.put, List.setIfInBounds_toArray, List.set_cons_zero, List.set_cons_succ]
        refine wpG_take (i := 4) (oi := ⟨some 8, _, _, _, _, _⟩) (v := (.bool true)) rfl (by kernel_rfl) (by kernel_rfl) (by kernel_rfl) (Or.inl ⟨by rfl, unib_val ?_⟩) ?_; (focus (intro w9 hSw; go_simp; try rfl)); simp only [Act.put, List.setIfInBounds_toArray, List.set_cons_zero, List.set_cons_succ]
        refine wpG_take (i := 5) (oi := ⟨some 9, _, _, _, _, _⟩) (v := ?_) rfl (by kernel_rfl) (by kernel_rfl) (by kernel_rfl) (Or.inl ⟨by rfl, unib_val ?_⟩) ?_; rotate_left; (focus (intro w9 hSw; go_simp; try with_reducible rfl)); simp only [Act.put, List.setIfInBounds_toArray, List.set_cons_zero, List.set_cons_succ]
        refine wpG_take (i := 6) (oi := ⟨some 10, _, _, _, _, _⟩) (v := ?_) rfl (by kernel_rfl) (by kernel_rfl) (by kernel_rfl) (Or.inl ⟨by rfl, unib_val ?_⟩) ?_; rotate_left; (focus (intro w9 hSw; go_simp; try with_reducible rfl)); simp only [Act.put, List.setIfInBounds_toArray, List.set_cons_zero, List.set_cons_succ]
        refine wpG_take (i := 7) (oi := ⟨some 11, _, _, _, _, _⟩) (v := ?_) rfl (by kernel_rfl) (by kernel_rfl) (by kernel_rfl) (Or.inl ⟨by rfl, unib_val ?_⟩) ?_; rotate_left; (focus (intro w9 hSw; go_simp; try with_reducible rfl)); simp only [Act.put, List.setIfInBounds_toArray, List.set_cons_zero, List.set_cons_succ]
        refine wpG_take (i := 8) (oi := ⟨some 12, _, _, _, _, _⟩) (v := ?_) rfl (by kernel_rfl) (by kernel_rfl) (by kernel_rfl) (Or.inl ⟨by rfl, unib_val ?_⟩) ?_; rotate_left; (focus (intro w9 hSw; go_simp; try with_reducible rfl)); simp only [Act.put, List.setIfInBounds_toArray, List.set_cons_zero, List.set_cons_succ]
        refine wpG_take (i := 9) (oi := ⟨some 13, _, _, _, _, _⟩) (v := ?_) rfl (by kernel_rfl) (by kernel_rfl) (by kernel_rfl) (Or.inl ⟨by rfl, unib_val ?_⟩) ?_; rotate_left; (focus (intro w9 hSw; have q0 := (hSw.cell (p := ⟨gB, 1, none⟩) LG.out).trans K5.out; go_simp; try with_reducible rfl)); simp only [Act.put, List.setIfInBounds_toArray, List.set_cons_zero, List.set_cons_succ]
        refine wpG_take (i := 10) (oi := ⟨some 14, _, _, _, _, _⟩) (v := ?_) rfl (by kernel_rfl) (by kernel_rfl) (by kernel_rfl) (Or.inl ⟨by rfl, unib_val ?_⟩) ?_; rotate_left; (focus (intro w9 hSw; go_simp; try with_reducible rfl)); simp only [Act.put, List.setIfInBounds_toArray, List.set_cons_zero, List.set_cons_succ]
        refine wpG_take (i := 11) (oi := ⟨some 15, _, _, _, _, _⟩) (v := ?_) rfl (by kernel_rfl) (by kernel_rfl) (by kernel_rfl) (Or.inl ⟨by rfl, unib_val ?_⟩) ?_; rotate_left; (focus (intro w9 hSw; go_simp; try with_reducible rfl)); simp only [Act.put, List.setIfInBounds_toArray, List.set_cons_zero, List.set_cons_succ]
        refine wpG_take (i := 12) (oi := ⟨some 16, _, _, _, _, _⟩) (v := ?_) rfl (by kernel_rfl) (by kernel_rfl) (by kernel_rfl) (Or.inl ⟨by rfl, unib_val ?_⟩) ?_; rotate_left; (focus (intro w9 hSw; have q0 := (hSw.cell (p := ⟨g, j * 4, none⟩) LX.out).trans D0.out; go_simp; try with_reducible rfl)); simp only [Act.put, List.setIfInBounds_toArray, List.set_cons_zero, List.set_cons_succ]
        refine wpG_take (i := 13) (oi := ⟨some 17, _, _, _, _, _⟩) (v := ?_) rfl (by kernel_rfl) (by kernel_rfl) (by kernel_rfl) (Or.inl ⟨by rfl, unib_val ?_⟩) ?_; rotate_left; (focus (intro w9 hSw; go_simp; try with_reducible rfl)); simp only [Act.put, List.setIfInBounds_toArray, List.set_cons_zero, List.set_cons_succ]
        refine wpG_take (i := 14) (oi := ⟨some 18, _, _, _, _, _⟩) (v := ?_) rfl (by kernel_rfl) (by kernel_rfl) (by kernel_rfl) (Or.inl ⟨by rfl, unib_val ?_⟩) ?_; rotate_left; (focus (intro w9 hSw; have q0 := (hSw.cell (p := ⟨w.heap.size, 0, none⟩) LB.out).trans K0.out; go_simp; try with_reducible rfl)); simp only [Act.put, List.setIfInBounds_toArray, List.set_cons_zero, List.set_cons_succ]
        refine wpG_take (i := 15) (oi := ⟨some 19, _, _, _, _, _⟩) (v := (.bool true)) rfl (by kernel_rfl) (by kernel_rfl) (by kernel_rfl) (Or.inl ⟨by rfl, unib_val ?_⟩) ?_; (focus (intro w9 hSw; have q0 := HC.out; go_simp; (try simp [q0]); try rfl)); simp only [Act.put, List.setIfInBounds_toArray, List.set_cons_zero, List.set_cons_succ]
        refine wpG_take (i := 16) (oi := ⟨some 20, _, _, _, _, _⟩) (v := ?_) rfl (by kernel_rfl) (by kernel_rfl) (by kernel_rfl) (Or.inl ⟨by rfl, unib_val ?_⟩) ?_; rotate_left; (focus (intro w9 hSw; go_simp; try with_reducible rfl)); simp only [Act.put, List.setIfInBounds_toArray, List.set_cons_zero, List.set_cons_succ]
        refine wpG_take (i := 17) (oi := ⟨some 21, _, _, _, _, _⟩) (v := ?_) rfl (by kernel_rfl) (by kernel_rfl) (by kernel_rfl) (Or.inl ⟨by rfl, unib_val ?_⟩) ?_; rotate_left; (focus (intro w9 hSw; go_simp; try with_reducible rfl)); simp only [Act.put, List.setIfInBounds_toArray, List.set_cons_zero, List.set_cons_succ]
        refine wpG_take (i := 18) (oi := ⟨some 22, _, _, _, _, _⟩) (v := ?_) rfl (by kernel_rfl) (by kernel_rfl) (by kernel_rfl) (Or.inl ⟨by rfl, unib_val ?_⟩) ?_; rotate_left; (focus (intro w9 hSw; go_simp; try with_reducible rfl)); simp only [Act.put, List.setIfInBounds_toArray, List.set_cons_zero, List.set_cons_succ]
        refine wpG_take (i := 19) (oi := ⟨some 23, _, _, _, _, _⟩) (v := ?_) rfl (by kernel_rfl) (by kernel_rfl) (by kernel_rfl) (Or.inl ⟨by rfl, unib_val ?_⟩) ?_; rotate_left; (focus (intro w9 hSw; go_simp; try with_reducible rfl)); simp only [Act.put, List.setIfInBounds_toArray, List.set_cons_zero, List.set_cons_succ]
        refine wpG_take (i := 20) (oi := ⟨some 24, _, _, _, _, _⟩) (v := ?_) rfl (by kernel_rfl) (by kernel_rfl) (by kernel_rfl) (Or.inl ⟨by rfl, unib_val ?_⟩) ?_; rotate_left; (focus (intro w9 hSw; go_simp; try with_reducible rfl)); simp only [Act.put, List.setIfInBounds_toArray, List.set_cons_zero, List.set_cons_succ]
        refine wpG_take (i := 21) (oi := ⟨some 25, _, _, _, _, _⟩) (v := ?_) rfl (by kernel_rfl) (by kernel_rfl) (by kernel_rfl) (Or.inl ⟨by rfl, unib_val ?_⟩) ?_; rotate_left; (focus (intro w9 hSw; have q0 := (hSw.cell (p := ⟨gB, 1, none⟩) LG.out).trans K5.out; go_simp; try with_reducible rfl)); simp only [Act.put, List.setIfInBounds_toArray, List.set_cons_zero, List.set_cons_succ]
        refine wpG_take (i := 22) (oi := ⟨some 26, _, _, _, _, _⟩) (v := ?_) rfl (by kernel_rfl) (by kernel_rfl) (by kernel_rfl) (Or.inl ⟨by rfl, unib_val ?_⟩) ?_; rotate_left; (focus (intro w9 hSw; go_simp; try with_reducible rfl)); simp only [Act.put, List.setIfInBounds_toArray, List.set_cons_zero, List.set_cons_succ]
        refine wpG_take (i := 23) (oi := ⟨some 27, _, _, _, _, _⟩) (v := ?_) rfl (by kernel_rfl) (by kernel_rfl) (by kernel_rfl) (Or.inl ⟨by rfl, unib_val ?_⟩) ?_; rotate_left; (focus (intro w9 hSw; go_simp; try with_reducible rfl)); simp only [Act.put, List.setIfInBounds_toArray, List.set_cons_zero, List.set_cons_succ]
        refine wpG_take (i := 24) (oi := ⟨some 28, _, _, _, _, _⟩) (v := ?_) rfl (by kernel_rfl) (by kernel_rfl) (by kernel_rfl) (Or.inl ⟨by rfl, unib_val ?_⟩) ?_; rotate_left; (focus (intro w9 hSw; have q0 := (hSw.cell (p := ⟨g, j * 4 + 1, none⟩) LX.out).trans D1.out; go_simp; try with_reducible rfl)); simp only [Act.put, List.setIfInBounds_toArray, List.set_cons_zero, List.set_cons_succ]
        refine wpG_take (i := 25) (oi := ⟨some 29, _, _, _, _, _⟩) (v := ?_) rfl (by kernel_rfl) (by kernel_rfl) (by kernel_rfl) (Or.inl ⟨by rfl, unib_val ?_⟩) ?_; rotate_left; (focus (intro w9 hSw; go_simp; try with_reducible rfl)); simp only [Act.put, List.setIfInBounds_toArray, List.set_cons_zero, List.set_cons_succ]
        refine wpG_take (i := 26) (oi := ⟨some 30, _, _, _, _, _⟩) (v := ?_) rfl (by kernel_rfl) (by kernel_rfl) (by kernel_rfl) (Or.inl ⟨by rfl, unib_val ?_⟩) ?_; rotate_left; (focus (intro w9 hSw; go_simp; try with_reducible rfl)); simp only [Act.put, List.setIfInBounds_toArray, List.set_cons_zero, List.set_cons_succ]
        refine wpG_take (i := 27) (oi := ⟨some 31, _, _, _, _, _⟩) (v := ?_) rfl (by kernel_rfl) (by kernel_rfl) (by kernel_rfl) (Or.inl ⟨by rfl, unib_val ?_⟩) ?_; rotate_left; (focus (intro w9 hSw; go_simp; try with_reducible rfl)); simp only [Act.put, List.setIfInBounds_toArray, List.set_cons_zero, List.set_cons_succ]
        refine wpG_take (i := 28) (oi := ⟨some 32, _, _, _, _, _⟩) (v := ?_) rfl (by kernel_rfl) (by kernel_rfl) (by kernel_rfl) (Or.inl ⟨by rfl, unib_val ?_⟩) ?_; rotate_left; (focus (intro w9 hSw; have q0 := (hSw.cell (p := ⟨gB, 1, none⟩) LG.out).trans K5.out; go_simp; try with_reducible rfl)); simp only [Act.put, List.setIfInBounds_toArray, List.set_cons_zero, List.set_cons_succ]
        refine wpG_take (i := 29) (oi := ⟨some 33, _, _, _, _, _⟩) (v := ?_) rfl (by kernel_rfl) (by kernel_rfl) (by kernel_rfl) (Or.inl ⟨by rfl, unib_val ?_⟩) ?_; rotate_left; (focus (intro w9 hSw; go_simp; try with_reducible rfl)); simp only [Act.put, List.setIfInBounds_toArray, List.set_cons_zero, List.set_cons_succ]
        refine wpG_take (i := 30) (oi := ⟨some 34, _, _, _, _, _⟩) (v := ?_) rfl (by kernel_rfl) (by kernel_rfl) (by kernel_rfl) (Or.inl ⟨by rfl, unib_val ?_⟩) ?_; rotate_left; (focus (intro w9 hSw; go_simp; try with_reducible rfl)); simp only [Act.put, List.setIfInBounds_toArray, List.set_cons_zero, List.set_cons_succ]
        refine wpG_take (i := 31) (oi := ⟨some 35, _, _, _, _, _⟩) (v := ?_) rfl (by kernel_rfl) (by kernel_rfl) (by kernel_rfl) (Or.inl ⟨by rfl, unib_val ?_⟩) ?_; rotate_left; (focus (intro w9 hSw; have q0 := (hSw.cell (p := ⟨g, j * 4 + 2, none⟩) LX.out).trans D2.out; go_simp; try with_reducible rfl)); simp only [Act.put, List.setIfInBounds_toArray, List.set_cons_zero, List.set_cons_succ]
        refine wpG_take (i := 32) (oi := ⟨some 36, _, _, _, _, _⟩) (v := ?_) rfl (by kernel_rfl) (by kernel_rfl) (by kernel_rfl) (Or.inl ⟨by rfl, unib_val ?_⟩) ?_; rotate_left; (focus (intro w9 hSw; have q0 := FW1.out; go_simp; try with_reducible rfl)); simp only [Act.put, List.setIfInBounds_toArray, List.set_cons_zero, List.set_cons_succ]
        refine wpG_take (i := 33) (oi := ⟨some 37, _, _, _, _, _⟩) (v := ?_) rfl (by kernel_rfl) (by kernel_rfl) (by kernel_rfl) (Or.inl ⟨by rfl, unib_val ?_⟩) ?_; rotate_left; (focus (intro w9 hSw; go_simp; try with_reducible rfl)); simp only [Act.put, List.setIfInBounds_toArray, List.set_cons_zero, List.set_cons_succ]
        refine wpG_take (i := 34) (oi := ⟨some 38, _, _, _, _, _⟩) (v := ?_) rfl (by kernel_rfl) (by kernel_rfl) (by kernel_rfl) (Or.inl ⟨by rfl, unib_val ?_⟩) ?_; rotate_left; (focus (intro w9 hSw; have q0 := (hSw.cell (p := ⟨w.heap.size, 1, none⟩) LB.out).trans K1.out; go_simp; try with_reducible rfl)); simp only [Act.put, List.setIfInBounds_toArray, List.set_cons_zero, List.set_cons_succ]
        refine wpG_take (i := 35) (oi := ⟨some 39, _, _, _, _, _⟩) (v := (.bool false)) rfl (by kernel_rfl) (by kernel_rfl) (by kernel_rfl) (Or.inl ⟨by rfl, unib_val ?_⟩) ?_; (focus (intro w9 hSw; have q0 := HE.out; go_simp; (try simp [q0]); try rfl)); simp only [Act.put, List.setIfInBounds_toArray, List.set_cons_zero, List.set_cons_succ]
        refine wpG_take (i := 36) (oi := ⟨some 40, _, _, _, _, _⟩) (v := ?_) rfl (by kernel_rfl) (by kernel_rfl) (by kernel_rfl) (Or.inl ⟨by rfl, unib_val ?_⟩) ?_; rotate_left; (focus (intro w9 hSw; go_simp; try with_reducible rfl)); simp only [Act.put, List.setIfInBounds_toArray, List.set_cons_zero, List.set_cons_succ]
        refine wpG_done (by kernel_rfl) ?_ _
        intro w2 hSw _
        have A2 := Lib.hid (A1.out.below hSw)
        clear hSw
        go_wp2_with fail
        refine wp_region_held_drew (S := fun w' => w'.heap[w.heap.size]? = w2.heap[w.heap.size]?) (by kernel_rfl) rfl (fun hS => ?_)
        have A3 := Lib.hid (A2.out.drew)
        generalize World.drew _ = w3 at *
        refine wpAnyH_take (i := 0) (oi := ⟨some 53, _, _, _, _, _⟩) (v := ?_) rfl (by kernel_rfl) (by kernel_rfl) (by kernel_rfl) (fun _ _ _ h => h) (Or.inl ⟨by rfl, ?_⟩) hS ?_; rotate_left; (focus (intro w9 hSw; (try dsimp only at hSw); go_simp; try with_reducible rfl)); simp only [Act.put, List.setIfInBounds_toArray, List.set_cons_zero, List.set_cons_succ]
        refine wpAnyH_take (i := 1) (oi := ⟨some 54, _, _, _, _, _⟩) (v := ?_) rfl (by kernel_rfl) (by kernel_rfl) (by kernel_rfl) (fun _ _ _ h => h) (Or.inl ⟨by rfl, ?_⟩) hS ?_; rotate_left; (focus (intro w9 hSw; (try dsimp only at hSw); go_simp; try with_reducible rfl)); simp only [Act.put, List.setIfInBounds_toArray, List.set_cons_zero, List.set_cons_succ]
        refine wpAnyH_take (i := 2) (oi := ⟨some 55, _, _, _, _, _⟩) (v := ?_) rfl (by kernel_rfl) (by kernel_rfl) (by kernel_rfl) (fun _ _ _ h => h) (Or.inl ⟨by rfl, ?_⟩) hS ?_; rotate_left; (focus (intro w9 hSw; (try dsimp only at hSw); go_simp; try with_reducible rfl)); simp only [Act.put, List.setIfInBounds_toArray, List.set_cons_zero, List.set_cons_succ]
        refine wpAnyH_take (i := 3) (oi := ⟨some 56, _, _, _, _, _⟩) (v := ?_) rfl (by kernel_rfl) (by kernel_rfl) (by kernel_rfl) (fun _ _ _ h => h) (Or.inl ⟨by rfl, ?_⟩) hS ?_; rotate_left; (focus (intro w9 hSw; (try dsimp only at hSw); go_simp; try with_reducible rfl)); simp only [Act.put, List.setIfInBounds_toArray, List.set_cons_zero, List.set_cons_succ]
        refine wpAnyH_take (i := 5) (oi := ⟨some 58, _, _, _, _, _⟩) (v := (KPc.v (⟨pc, pf, pl, pt⟩ : Pc))) rfl (by kernel_rfl) (by kernel_rfl) (by kernel_rfl) (fun _ _ _ h => h) (Or.inl ⟨by rfl, ?_⟩) hS ?_; (focus (intro w9 hSw; (try dsimp only at hSw); exact exec_load_at 44 _ rfl ⟨w.heap.size, 0, none⟩ rfl (load_pc (Kind.at_blk (hSw.trans A2.out.pb))))); simp only [Act.put, List.setIfInBounds_toArray, List.set_cons_zero, List.set_cons_succ]
        refine wpAnyH_ready (rs := [4, 6]) (by kernel_rfl) (by simp) (AllReadyH.cons (o := ⟨some 57, _, _, _, _, _⟩) rfl (fun K hK => ?_) (AllReadyH.cons (o := ⟨some 59, _, _, _, _, _⟩) rfl (fun K hK => ?_) AllReadyH.nil))
        · have q0 : World.cell? w3 ⟨gB, 0, none⟩ = some lv := by rw [cell_of_row _ _ _ _ _ _ A3.out.gat]; rfl
          go_simp
          refine hK.out _ _ hS (fun hS => ?_)
          clear hK K q0
          try simp only [Act.put, List.setIfInBounds_toArray, List.set_cons_zero, List.set_cons_succ]
          refine wpAnyH_ready (rs := [6]) (by kernel_rfl) (by simp) (AllReadyH.cons (o := ⟨some 59, _, _, _, _, _⟩) rfl (fun K hK => ?_) AllReadyH.nil)
          refine step_bsliceK (K := KPc) rfl (.tmp 58) rfl (⟨pc, pf, pl, pt⟩ : Pc) rfl rfl Tryd.underlying22 sizePc zeroPc nPc ?_
          have A4 := Lib.hid (A3.out.alloc (.cells (KPc.cs (⟨pc, pf, pl, pt⟩ : Pc)).toArray 44))
          refine hK.out _ _ ((Below.heap_alloc _ _ _ (Array.getElem?_eq_some_iff.1 A3.out.pb).1).trans hS) (fun hS => ?_)
          clear hK K
          try simp only [Act.put, List.setIfInBounds_toArray, List.set_cons_zero, List.set_cons_succ]
          refine wpAnyH_ready (rs := [7]) (by kernel_rfl) (by simp) (AllReadyH.cons (o := ⟨some 60, _, _, _, _, _⟩) rfl (fun K hK => ?_) AllReadyH.nil)
          refine step_append_K (K := KPc) (o := ⟨some 60, _, _, _, _, _⟩) rfl _ _ 22 rfl base 44 i0 _ 40 Tryd.underlying22 hi hz0 hz1 hz2 hzl (by omega) lv G (⟨pc, pf, pl, pt⟩ : Pc) rfl A4.out.own HGN.out rfl rfl (by have := A4.out.base; omega) ?_
          intro v5 w5 ho5 hg5
          have P5 := Lib.hid (A4.out.grow ho5 hg5 HLB.out)
          obtain ⟨g5, cap5, hv5, hbg5, hgw5, hjc5, hat5⟩ := own_last (a := G) (p := (⟨pc, pf, pl, pt⟩ : Pc)) rfl ho5
          subst hv5
          have HO5 := Lib.hid ho5
          have HG5 := Lib.hid hbg5
          clear ho5 hg5 hgw5 hjc5 hat5
          refine hK.out _ _ (P5.out.2.1.trans A2.out.pb.symm) (fun hS => ?_)
          clear hK K
          try simp only [Act.put, List.setIfInBounds_toArray, List.set_cons_zero, List.set_cons_succ]
          refine wpAnyH_take (i := 8) (oi := ⟨some 61, _, _, _, _, _⟩) (v := ?_) rfl (by kernel_rfl) (by kernel_rfl) (by kernel_rfl) (fun _ _ _ h => h) (Or.inl ⟨by rfl, ?_⟩) hS ?_; rotate_left; (focus (intro w9 hSw; (try dsimp only at hSw); go_simp; try with_reducible rfl)); simp only [Act.put, List.setIfInBounds_toArray, List.set_cons_zero, List.set_cons_succ]
          refine wpAnyH_take (i := 9) (oi := ⟨some 62, _, _, _, _, _⟩) (v := ?_) rfl (by kernel_rfl) (by kernel_rfl) (by kernel_rfl) (fun _ _ _ h => h) (Or.inl ⟨by rfl, ?_⟩) hS ?_; rotate_left; (focus (intro w9 hSw; (try dsimp only at hSw); go_simp; try with_reducible rfl)); simp only [Act.put, List.setIfInBounds_toArray, List.set_cons_zero, List.set_cons_succ]
          refine wpAnyH_ready (rs := [10]) (by kernel_rfl) (by simp) (AllReadyH.cons (o := ⟨none, _, _, _, _, _⟩) rfl (fun K hK => ?_) AllReadyH.nil)
          have q0 : w5.cell? ⟨gB, 0, none⟩ = some lv := by rw [cell_of_row _ _ _ _ _ _ P5.out.1]; rfl
          have q1 : w5.frozen? ⟨gB, 0, none⟩ = false := frozen_of_row _ _ _ _ _ P5.out.1
          have G6 := Lib.hid (gat_put0 P5.out.1 (.slice (some ⟨g5, 0, none⟩) (G.length + 1) cap5))
          have O6 := Lib.hid (HO5.out.kept (gat_set w5 gB 0 (.slice (some ⟨g5, 0, none⟩) (G.length + 1) cap5)) (.inr (fun e => by have := own_base HO5.out e; have := HGB.out; omega)))
          have K6 := Lib.hid (P5.out.2.2.set (j := 0) (.slice (some ⟨g5, 0, none⟩) (G.length + 1) cap5))
          go_simp
          refine hK.out _ _ ((Below.heap_setCell _ _ _ _ (by have := HPB.out; dsimp only; omega)).trans hS) (fun hS => ?_)
          clear hK K q0 q1 hS
          try simp only [Act.put, List.setIfInBounds_toArray, List.set_cons_zero, List.set_cons_succ]
          refine wpAnyH_done (by kernel_rfl) ?_ _
          generalize w5.setCell ⟨gB, 0, none⟩ (.slice (some ⟨g5, 0, none⟩) (G.length + 1) cap5) = w6 at *
          go_wp2_with fail
          refine wp_region_held_drew (S := fun w' => w'.heap[gB]? = w6.heap[gB]? ∨ w'.heap[gB]? = some (.cells #[.slice (some ⟨g5, 0, none⟩) (G.length + 1) cap5, .pointer (some ⟨g5, G.length * 4, none⟩)] 57)) (by kernel_rfl) (.inl rfl) (fun hS => ?_)
          have G7 := Lib.hid (show (World.drew w6).heap[gB]? = _ from G6.out)
          have O7 := Lib.hid (show (World.drew w6).ownsRow base 44 KPc.n (.slice (some ⟨g5, 0, none⟩) (G.length + 1) cap5) (G.length + 1) ((G ++ [(⟨pc, pf, pl, pt⟩ : Pc)]).flatMap KPc.cs) from O6.out)
          have K7 := Lib.hid (show KeepG gB base w (World.drew w6) from K6.out.drew)
          generalize World.drew w6 = w7 at *
          have HC0 : Hid (∀ w9 : World, (w9.heap[gB]? = w6.heap[gB]? ∨ w9.heap[gB]? = some (.cells #[.slice (some ⟨g5, 0, none⟩) (G.length + 1) cap5, .pointer (some ⟨g5, G.length * 4, none⟩)] 57)) → w9.cell? ⟨gB, 0, none⟩ = some (.slice (some ⟨g5, 0, none⟩) (G.length + 1) cap5)) := Lib.hid (fun w9 h => by
            rcases h with h | h
            · rw [cell_of_row _ _ _ _ _ _ (h.trans G6.out)]; rfl
            · rw [cell_of_row _ _ _ _ _ _ h]; rfl)
          have FW5 : Hid (IntKind.i64.wrap (((G.length + 1 : Nat) : Int) - 1) = (G.length : Int)) := Lib.hid (by rw [IntWalk.i64_in _ (by have := HGN.out; omega)]; omega)
          have FW6 : Hid (IntKind.i64.wrap (G.length : Int) = (G.length : Int)) := Lib.hid (IntWalk.i64_in _ (by have := HGN.out; omega))
          have HIX := Lib.hid (fun w9 => pc_ix g5 G.length cap5 (G.length : Int) rfl w9)
          refine wpAnyH_take (i := 0) (oi := ⟨some 63, _, _, _, _, _⟩) (v := ?_) rfl (by kernel_rfl) (by kernel_rfl) (by kernel_rfl) (fun _ _ _ h => h) (Or.inl ⟨by rfl, ?_⟩) hS ?_; rotate_left; (focus (intro w9 hSw; (try dsimp only at hSw); go_simp; try with_reducible rfl)); simp only [Act.put, List.setIfInBounds_toArray, List.set_cons_zero, List.set_cons_succ]
          refine wpAnyH_take (i := 1) (oi := ⟨some 64, _, _, _, _, _⟩) (v := ?_) rfl (by kernel_rfl) (by kernel_rfl) (by kernel_rfl) (fun _ _ _ h => h) (Or.inl ⟨by rfl, ?_⟩) hS ?_; rotate_left; (focus (intro w9 hSw; (try dsimp only at hSw); go_simp; try with_reducible rfl)); simp only [Act.put, List.setIfInBounds_toArray, List.set_cons_zero, List.set_cons_succ]
          refine wpAnyH_take (i := 2) (oi := ⟨some 65, _, _, _, _, _⟩) (v := ?_) rfl (by kernel_rfl) (by kernel_rfl) (by kernel_rfl) (fun _ _ _ h => h) (Or.inl ⟨by rfl, ?_⟩) hS ?_; rotate_left; (focus (intro w9 hSw; (try dsimp only at hSw); go_simp; try with_reducible rfl)); simp only [Act.put, List.setIfInBounds_toArray, List.set_cons_zero, List.set_cons_succ]
          refine wpAnyH_take (i := 3) (oi := ⟨some 66, _, _, _, _, _⟩) (v := ?_) rfl (by kernel_rfl) (by kernel_rfl) (by kernel_rfl) (fun _ _ _ h => h) (Or.inl ⟨by rfl, ?_⟩) hS ?_; rotate_left; (focus (intro w9 hSw; (try dsimp only at hSw); go_simp; try with_reducible rfl)); simp only [Act.put, List.setIfInBounds_toArray, List.set_cons_zero, List.set_cons_succ]
          refine wpAnyH_take (i := 4) (oi := ⟨some 67, _, _, _, _, _⟩) (v := ?_) rfl (by kernel_rfl) (by kernel_rfl) (by kernel_rfl) (fun _ _ _ h => h) (Or.inl ⟨by rfl, ?_⟩) hS ?_; rotate_left; (focus (intro w9 hSw; (try dsimp only at hSw); have q0 := HC0.out w9 hSw; go_simp; try with_reducible rfl)); simp only [Act.put, List.setIfInBounds_toArray, List.set_cons_zero, List.set_cons_succ]
          refine wpAnyH_take (i := 5) (oi := ⟨some 68, _, _, _, _, _⟩) (v := ?_) rfl (by kernel_rfl) (by kernel_rfl) (by kernel_rfl) (fun _ _ _ h => h) (Or.inl ⟨by rfl, ?_⟩) hS ?_; rotate_left; (focus (intro w9 hSw; (try dsimp only at hSw); go_simp; try with_reducible rfl)); simp only [Act.put, List.setIfInBounds_toArray, List.set_cons_zero, List.set_cons_succ]
          refine wpAnyH_take (i := 6) (oi := ⟨some 69, _, _, _, _, _⟩) (v := ?_) rfl (by kernel_rfl) (by kernel_rfl) (by kernel_rfl) (fun _ _ _ h => h) (Or.inl ⟨by rfl, ?_⟩) hS ?_; rotate_left; (focus (intro w9 hSw; (try dsimp only at hSw); go_simp; try with_reducible rfl)); simp only [Act.put, List.setIfInBounds_toArray, List.set_cons_zero, List.set_cons_succ]
          refine wpAnyH_take (i := 7) (oi := ⟨some 70, _, _, _, _, _⟩) (v := ?_) rfl (by kernel_rfl) (by kernel_rfl) (by kernel_rfl) (fun _ _ _ h => h) (Or.inl ⟨by rfl, ?_⟩) hS ?_; rotate_left; (focus (intro w9 hSw; (try dsimp only at hSw); go_simp; try with_reducible rfl)); simp only [Act.put, List.setIfInBounds_toArray, List.set_cons_zero, List.set_cons_succ]
          refine wpAnyH_take (i := 8) (oi := ⟨some 71, _, _, _, _, _⟩) (v := ?_) rfl (by kernel_rfl) (by kernel_rfl) (by kernel_rfl) (fun _ _ _ h => h) (Or.inl ⟨by rfl, ?_⟩) hS ?_; rotate_left; (focus (intro w9 hSw; (try dsimp only at hSw); have q0 := HC0.out w9 hSw; go_simp; try with_reducible rfl)); simp only [Act.put, List.setIfInBounds_toArray, List.set_cons_zero, List.set_cons_succ]
          refine wpAnyH_take (i := 9) (oi := ⟨some 72, _, _, _, _, _⟩) (v := ?_) rfl (by kernel_rfl) (by kernel_rfl) (by kernel_rfl) (fun _ _ _ h => h) (Or.inl ⟨by rfl, ?_⟩) hS ?_; rotate_left; (focus (intro w9 hSw; (try dsimp only at hSw); go_simp; try with_reducible rfl)); simp only [Act.put, List.setIfInBounds_toArray, List.set_cons_zero, List.set_cons_succ]
          refine wpAnyH_take (i := 10) (oi := ⟨some 73, _, _, _, _, _⟩) (v := (.int .i64 (G.length : Int))) rfl (by kernel_rfl) (by kernel_rfl) (by kernel_rfl) (fun _ _ _ h => h) (Or.inl ⟨by rfl, ?_⟩) hS ?_; (focus (intro w9 hSw; (try dsimp only at hSw); have q0 := FW5.out; have q1 := FW6.out; go_simp; try rfl)); simp only [Act.put, List.setIfInBounds_toArray, List.set_cons_zero, List.set_cons_succ]
          refine wpAnyH_take (i := 11) (oi := ⟨some 74, _, _, _, _, _⟩) (v := (.pointer (some ⟨g5, G.length * 4, none⟩))) rfl (by kernel_rfl) (by kernel_rfl) (by kernel_rfl) (fun _ _ _ h => h) (Or.inl ⟨by rfl, ?_⟩) hS ?_; (focus (intro w9 hSw; (try dsimp only at hSw); have q0 := HIX.out w9; go_simp; try rfl)); simp only [Act.put, List.setIfInBounds_toArray, List.set_cons_zero, List.set_cons_succ]
          refine wpAnyH_take (i := 12) (oi := ⟨some 75, _, _, _, _, _⟩) (v := ?_) rfl (by kernel_rfl) (by kernel_rfl) (by kernel_rfl) (fun _ _ _ h => h) (Or.inl ⟨by rfl, ?_⟩) hS ?_; rotate_left; (focus (intro w9 hSw; (try dsimp only at hSw); go_simp; try with_reducible rfl)); simp only [Act.put, List.setIfInBounds_toArray, List.set_cons_zero, List.set_cons_succ]
          refine wpAnyH_take (i := 13) (oi := ⟨some 76, _, _, _, _, _⟩) (v := ?_) rfl (by kernel_rfl) (by kernel_rfl) (by kernel_rfl) (fun _ _ _ h => h) (Or.inl ⟨by rfl, ?_⟩) hS ?_; rotate_left; (focus (intro w9 hSw; (try dsimp only at hSw); go_simp; try with_reducible rfl)); simp only [Act.put, List.setIfInBounds_toArray, List.set_cons_zero, List.set_cons_succ]
          refine wpAnyH_ready (rs := [14]) (by kernel_rfl) (by simp) (AllReadyH.cons (o := ⟨none, _, _, _, _, _⟩) rfl (fun K hK => ?_) AllReadyH.nil)
          have q0 : w7.cell? ⟨gB, 1, none⟩ = some (lastP lv) := by rw [cell_of_row _ _ _ _ _ _ G7.out]; rfl
          have q1 : w7.frozen? ⟨gB, 1, none⟩ = false := frozen_of_row _ _ _ _ _ G7.out
          have G8 := Lib.hid (gat_put1 G7.out (.pointer (some ⟨g5, G.length * 4, none⟩)))
          have O8 := Lib.hid (O7.out.kept (gat_set w7 gB 1 (.pointer (some ⟨g5, G.length * 4, none⟩))) (.inr (fun e => by have := own_base O7.out e; have := HGB.out; omega)))
          have K8 := Lib.hid (K7.out.set (j := 1) (.pointer (some ⟨g5, G.length * 4, none⟩)))
          go_simp
          refine hK.out _ _ (.inr G8.out) (fun hS => ?_)
          clear hK K q0 q1 hS
          try simp only [Act.put, List.setIfInBounds_toArray, List.set_cons_zero, List.set_cons_succ]
          refine wpAnyH_done (by kernel_rfl) ?_ _
          go_wp2
          have FV := HV.out (G ++ [(⟨pc, pf, pl, pt⟩ : Pc)]) HPA.out _ ⟨_, by have h := G8.out; exact lastP_new h, by rw [List.length_append]; exact O8.out⟩ K8.out
          first | exact FV | (go_end0; exact FV) | (refine bodyPost_ret (v := .tuple #[]) (by simp [results, Tryd.results29]) rfl FV) | (exact ⟨rfl, .tuple #[], by simp [results, Tryd.results29], FV⟩)
        · refine step_bsliceK (K := KPc) rfl (.tmp 58) rfl (⟨pc, pf, pl, pt⟩ : Pc) rfl rfl Tryd.underlying22 sizePc zeroPc nPc ?_
          have A4 := Lib.hid (A3.out.alloc (.cells (KPc.cs (⟨pc, pf, pl, pt⟩ : Pc)).toArray 44))
          refine hK.out _ _ ((Below.heap_alloc _ _ _ (Array.getElem?_eq_some_iff.1 A3.out.pb).1).trans hS) (fun hS => ?_)
          clear hK K
          try simp only [Act.put, List.setIfInBounds_toArray, List.set_cons_zero, List.set_cons_succ]
          refine wpAnyH_ready (rs := [4]) (by kernel_rfl) (by simp) (AllReadyH.cons (o := ⟨some 57, _, _, _, _, _⟩) rfl (fun K hK => ?_) AllReadyH.nil)
          have q0 : World.cell? (w3.alloc (.cells (KPc.cs (⟨pc, pf, pl, pt⟩ : Pc)).toArray 44)) ⟨gB, 0, none⟩ = some lv := by rw [cell_of_row _ _ _ _ _ _ A4.out.gat]; rfl
          go_simp
          refine hK.out _ _ hS (fun hS => ?_)
          clear hK K q0
          try simp only [Act.put, List.setIfInBounds_toArray, List.set_cons_zero, List.set_cons_succ]
          refine wpAnyH_ready (rs := [7]) (by kernel_rfl) (by simp) (AllReadyH.cons (o := ⟨some 60, _, _, _, _, _⟩) rfl (fun K hK => ?_) AllReadyH.nil)
          refine step_append_K (K := KPc) (o := ⟨some 60, _, _, _, _, _⟩) rfl _ _ 22 rfl base 44 i0 _ 40 Tryd.underlying22 hi hz0 hz1 hz2 hzl (by omega) lv G (⟨pc, pf, pl, pt⟩ : Pc) rfl A4.out.own HGN.out rfl rfl (by have := A4.out.base; omega) ?_
          intro v5 w5 ho5 hg5
          have P5 := Lib.hid (A4.out.grow ho5 hg5 HLB.out)
          obtain ⟨g5, cap5, hv5, hbg5, hgw5, hjc5, hat5⟩ := own_last (a := G) (p := (⟨pc, pf, pl, pt⟩ : Pc)) rfl ho5
          subst hv5
          have HO5 := Lib.hid ho5
          have HG5 := Lib.hid hbg5
          clear ho5 hg5 hgw5 hjc5 hat5
          refine hK.out _ _ (P5.out.2.1.trans A2.out.pb.symm) (fun hS => ?_)
          clear hK K
          try simp only [Act.put, List.setIfInBounds_toArray, List.set_cons_zero, List.set_cons_succ]
          refine wpAnyH_take (i := 8) (oi := ⟨some 61, _, _, _, _, _⟩) (v := ?_) rfl (by kernel_rfl) (by kernel_rfl) (by kernel_rfl) (fun _ _ _ h => h) (Or.inl ⟨by rfl, ?_⟩) hS ?_; rotate_left; (focus (intro w9 hSw; (try dsimp only at hSw); go_simp; try with_reducible rfl)); simp only [Act.put, List.setIfInBounds_toArray, List.set_cons_zero, List.set_cons_succ]
          refine wpAnyH_take (i := 9) (oi := ⟨some 62, _, _, _, _, _⟩) (v := ?_) rfl (by kernel_rfl) (by kernel_rfl) (by kernel_rfl) (fun _ _ _ h => h) (Or.inl ⟨by rfl, ?_⟩) hS ?_; rotate_left; (focus (intro w9 hSw; (try dsimp only at hSw); go_simp; try with_reducible rfl)); simp only [Act.put, List.setIfInBounds_toArray, List.set_cons_zero, List.set_cons_succ]
          refine wpAnyH_ready (rs := [10]) (by kernel_rfl) (by simp) (AllReadyH.cons (o := ⟨none, _, _, _, _, _⟩) rfl (fun K hK => ?_) AllReadyH.nil)
          have q0 : w5.cell? ⟨gB, 0, none⟩ = some lv := by rw [cell_of_row _ _ _ _ _ _ P5.out.1]; rfl
          have q1 : w5.frozen? ⟨gB, 0, none⟩ = false := frozen_of_row _ _ _ _ _ P5.out.1
          have G6 := Lib.hid (gat_put0 P5.out.1 (.slice (some ⟨g5, 0, none⟩) (G.length + 1) cap5))
          have O6 := Lib.hid (HO5.out.kept (gat_set w5 gB 0 (.slice (some ⟨g5, 0, none⟩) (G.length + 1) cap5)) (.inr (fun e => by have := own_base HO5.out e; have := HGB.out; omega)))
          have K6 := Lib.hid (P5.out.2.2.set (j := 0) (.slice (some ⟨g5, 0, none⟩) (G.length + 1) cap5))
          go_simp
          refine hK.out _ _ ((Below.heap_setCell _ _ _ _ (by have := HPB.out; dsimp only; omega)).trans hS) (fun hS => ?_)
          clear hK K q0 q1 hS
          try simp only [Act.put, List.setIfInBounds_toArray, List.set_cons_zero, List.set_cons_succ]
          refine wpAnyH_done (by kernel_rfl) ?_ _
          generalize w5.setCell ⟨gB, 0, none⟩ (.slice (some ⟨g5, 0, none⟩) (G.length + 1) cap5) = w6 at *
          go_wp2_with fail
          refine wp_region_held_drew (S := fun w' => w'.heap[gB]? = w6.heap[gB]? ∨ w'.heap[gB]? = some (.cells #[.slice (some ⟨g5, 0, none⟩) (G.length + 1) cap5, .pointer (some ⟨g5, G.length * 4, none⟩)] 57)) (by kernel_rfl) (.inl rfl) (fun hS => ?_)
          have G7 := Lib.hid (show (World.drew w6).heap[gB]? = _ from G6.out)
          have O7 := Lib.hid (show (World.drew w6).ownsRow base 44 KPc.n (.slice (some ⟨g5, 0, none⟩) (G.length + 1) cap5) (G.length + 1) ((G ++ [(⟨pc, pf, pl, pt⟩ : Pc)]).flatMap KPc.cs) from O6.out)
          have K7 := Lib.hid (show KeepG gB base w (World.drew w6) from K6.out.drew)
          generalize World.drew w6 = w7 at *
          have HC0 : Hid (∀ w9 : World, (w9.heap[gB]? = w6.heap[gB]? ∨ w9.heap[gB]? = some (.cells #[.slice (some ⟨g5, 0, none⟩) (G.length + 1) cap5, .pointer (some ⟨g5, G.length * 4, none⟩)] 57)) → w9.cell? ⟨gB, 0, none⟩ = some (.slice (some ⟨g5, 0, none⟩) (G.length + 1) cap5)) := Lib.hid (fun w9 h => by
            rcases h with h | h
            · rw [cell_of_row _ _ _ _ _ _ (h.trans G6.out)]; rfl
            · rw [cell_of_row _ _ _ _ _ _ h]; rfl)
          have FW5 : Hid (IntKind.i64.wrap (((G.length + 1 : Nat) : Int) - 1) = (G.length : Int)) := Lib.hid (by rw [IntWalk.i64_in _ (by have := HGN.out; omega)]; omega)
          have FW6 : Hid (IntKind.i64.wrap (G.length : Int) = (G.length : Int)) := Lib.hid (IntWalk.i64_in _ (by have := HGN.out; omega))
          have HIX := Lib.hid (fun w9 => pc_ix g5 G.length cap5 (G.length : Int) rfl w9)
          refine wpAnyH_take (i := 0) (oi := ⟨some 63, _, _, _, _, _⟩) (v := ?_) rfl (by kernel_rfl) (by kernel_rfl) (by kernel_rfl) (fun _ _ _ h => h) (Or.inl ⟨by rfl, ?_⟩) hS ?_; rotate_left; (focus (intro w9 hSw; (try dsimp only at hSw); go_simp; try with_reducible rfl)); simp only [Act.put, List.setIfInBounds_toArray, List.set_cons_zero, List.set_cons_succ]
          refine wpAnyH_take (i := 1) (oi := ⟨some 64, _, _, _, _, _⟩) (v := ?_) rfl (by kernel_rfl) (by kernel_rfl) (by kernel_rfl) (fun _ _ _ h => h) (Or.inl ⟨by rfl, ?_⟩) hS ?_; rotate_left; (focus (intro w9 hSw; (try dsimp only at hSw); go_simp; try with_reducible rfl)); simp only [Act.put, List.setIfInBounds_toArray, List.set_cons_zero, List.set_cons_succ]
          refine wpAnyH_take (i := 2) (oi := ⟨some 65, _, _, _, _, _⟩) (v := ?_) rfl (by kernel_rfl) (by kernel_rfl) (by kernel_rfl) (fun _ _ _ h => h) (Or.inl ⟨by rfl, ?_⟩) hS ?_; rotate_left; (focus (intro w9 hSw; (try dsimp only at hSw); go_simp; try with_reducible rfl)); simp only [Act.put, List.setIfInBounds_toArray, List.set_cons_zero, List.set_cons_succ]
          refine wpAnyH_take (i := 3) (oi := ⟨some 66, _, _, _, _, _⟩) (v := ?_) rfl (by kernel_rfl) (by kernel_rfl) (by kernel_rfl) (fun _ _ _ h => h) (Or.inl ⟨by rfl, ?_⟩) hS ?_; rotate_left; (focus (intro w9 hSw; (try dsimp only at hSw); go_simp; try with_reducible rfl)); simp only [Act.put, List.setIfInBounds_toArray, List.set_cons_zero, List.set_cons_succ]
          refine wpAnyH_take (i := 4) (oi := ⟨some 67, _, _, _, _, _⟩) (v := ?_) rfl (by kernel_rfl) (by kernel_rfl) (by kernel_rfl) (fun _ _ _ h => h) (Or.inl ⟨by rfl, ?_⟩) hS ?_; rotate_left; (focus (intro w9 hSw; (try dsimp only at hSw); have q0 := HC0.out w9 hSw; go_simp; try with_reducible rfl)); simp only [Act.put, List.setIfInBounds_toArray, List.set_cons_zero, List.set_cons_succ]
          refine wpAnyH_take (i := 5) (oi := ⟨some 68, _, _, _, _, _⟩) (v := ?_) rfl (by kernel_rfl) (by kernel_rfl) (by kernel_rfl) (fun _ _ _ h => h) (Or.inl ⟨by rfl, ?_⟩) hS ?_; rotate_left; (focus (intro w9 hSw; (try dsimp only at hSw); go_simp; try with_reducible rfl)); simp only [Act.put, List.setIfInBounds_toArray, List.set_cons_zero, List.set_cons_succ]
          refine wpAnyH_take (i := 6) (oi := ⟨some 69, _, _, _, _, _⟩) (v := ?_) rfl (by kernel_rfl) (by kernel_rfl) (by kernel_rfl) (fun _ _ _ h => h) (Or.inl ⟨by rfl, ?_⟩) hS ?_; rotate_left; (focus (intro w9 hSw; (try dsimp only at hSw); go_simp; try with_reducible rfl)); simp only [Act.put, List.setIfInBounds_toArray, List.set_cons_zero, List.set_cons_succ]
          refine wpAnyH_take (i := 7) (oi := ⟨some 70, _, _, _, _, _⟩) (v := ?_) rfl (by kernel_rfl) (by kernel_rfl) (by kernel_rfl) (fun _ _ _ h => h) (Or.inl ⟨by rfl, ?_⟩) hS ?_; rotate_left; (focus (intro w9 hSw; (try dsimp only at hSw); go_simp; try with_reducible rfl)); simp only [Act.put, List.setIfInBounds_toArray, List.set_cons_zero, List.set_cons_succ]
          refine wpAnyH_take (i := 8) (oi := ⟨some 71, _, _, _, _, _⟩) (v := ?_) rfl (by kernel_rfl) (by kernel_rfl) (by kernel_rfl) (fun _ _ _ h => h) (Or.inl ⟨by rfl, ?_⟩) hS ?_; rotate_left; (focus (intro w9 hSw; (try dsimp only at hSw); have q0 := HC0.out w9 hSw; go_simp; try with_reducible rfl)); simp only [Act.put, List.setIfInBounds_toArray, List.set_cons_zero, List.set_cons_succ]
          refine wpAnyH_take (i := 9) (oi := ⟨some 72, _, _, _, _, _⟩) (v := ?_) rfl (by kernel_rfl) (by kernel_rfl) (by kernel_rfl) (fun _ _ _ h => h) (Or.inl ⟨by rfl, ?_⟩) hS ?_; rotate_left; (focus (intro w9 hSw; (try dsimp only at hSw); go_simp; try with_reducible rfl)); simp only [Act.put, List.setIfInBounds_toArray, List.set_cons_zero, List.set_cons_succ]
          refine wpAnyH_take (i := 10) (oi := ⟨some 73, _, _, _, _, _⟩) (v := (.int .i64 (G.length : Int))) rfl (by kernel_rfl) (by kernel_rfl) (by kernel_rfl) (fun _ _ _ h => h) (Or.inl ⟨by rfl, ?_⟩) hS ?_; (focus (intro w9 hSw; (try dsimp only at hSw); have q0 := FW5.out; have q1 := FW6.out; go_simp; try rfl)); simp only [Act.put, List.setIfInBounds_toArray, List.set_cons_zero, List.set_cons_succ]
          refine wpAnyH_take (i := 11) (oi := ⟨some 74, _, _, _, _, _⟩) (v := (.pointer (some ⟨g5, G.length * 4, none⟩))) rfl (by kernel_rfl) (by kernel_rfl) (by kernel_rfl) (fun _ _ _ h => h) (Or.inl ⟨by rfl, ?_⟩) hS ?_; (focus (intro w9 hSw; (try dsimp only at hSw); have q0 := HIX.out w9; go_simp; try rfl)); simp only [Act.put, List.setIfInBounds_toArray, List.set_cons_zero, List.set_cons_succ]
          refine wpAnyH_take (i := 12) (oi := ⟨some 75, _, _, _, _, _⟩) (v := ?_) rfl (by kernel_rfl) (by kernel_rfl) (by kernel_rfl) (fun _ _ _ h => h) (Or.inl ⟨by rfl, ?_⟩) hS ?_; rotate_left; (focus (intro w9 hSw; (try dsimp only at hSw); go_simp; try with_reducible rfl)); simp only [Act.put, List.setIfInBounds_toArray, List.set_cons_zero, List.set_cons_succ]
          refine wpAnyH_take (i := 13) (oi := ⟨some 76, _, _, _, _, _⟩) (v := ?_) rfl (by kernel_rfl) (by kernel_rfl) (by kernel_rfl) (fun _ _ _ h => h) (Or.inl ⟨by rfl, ?_⟩) hS ?_; rotate_left; (focus (intro w9 hSw; (try dsimp only at hSw); go_simp; try with_reducible rfl)); simp only [Act.put, List.setIfInBounds_toArray, List.set_cons_zero, List.set_cons_succ]
          refine wpAnyH_ready (rs := [14]) (by kernel_rfl) (by simp) (AllReadyH.cons (o := ⟨none, _, _, _, _, _⟩) rfl (fun K hK => ?_) AllReadyH.nil)
          have q0 : w7.cell? ⟨gB, 1, none⟩ = some (lastP lv) := by rw [cell_of_row _ _ _ _ _ _ G7.out]; rfl
          have q1 : w7.frozen? ⟨gB, 1, none⟩ = false := frozen_of_row _ _ _ _ _ G7.out
          have G8 := Lib.hid (gat_put1 G7.out (.pointer (some ⟨g5, G.length * 4, none⟩)))
          have O8 := Lib.hid (O7.out.kept (gat_set w7 gB 1 (.pointer (some ⟨g5, G.length * 4, none⟩))) (.inr (fun e => by have := own_base O7.out e; have := HGB.out; omega)))
          have K8 := Lib.hid (K7.out.set (j := 1) (.pointer (some ⟨g5, G.length * 4, none⟩)))
          go_simp
          refine hK.out _ _ (.inr G8.out) (fun hS => ?_)
          clear hK K q0 q1 hS
          try simp only [Act.put, List.setIfInBounds_toArray, List.set_cons_zero, List.set_cons_succ]
          refine wpAnyH_done (by kernel_rfl) ?_ _
          go_wp2
          have FV := HV.out (G ++ [(⟨pc, pf, pl, pt⟩ : Pc)]) HPA.out _ ⟨_, by have h := G8.out; exact lastP_new h, by rw [List.length_append]; exact O8.out⟩ K8.out
          first | exact FV | (go_end0; exact FV) | (refine bodyPost_ret (v := .tuple #[]) (by simp [results, Tryd.results29]) rfl FV) | (exact ⟨rfl, .tuple #[], by simp [results, Tryd.results29], FV⟩)
      · have HC := Lib.hid hc
        clear hon hc
        have K0 : Hid (w1.cell? ⟨w.heap.size, 0, none⟩ = some (.bool pc)) := Lib.hid (by rw [cell_of_row _ _ _ _ _ _ A1.out.pb]; rfl)
        have K1 : Hid (w1.cell? ⟨w.heap.size, 1, none⟩ = some (.int .i64 pf)) := Lib.hid (by rw [cell_of_row _ _ _ _ _ _ A1.out.pb]; rfl)
        have K2 : Hid (w1.cell? ⟨w.heap.size, 2, none⟩ = some (.int .i64 pl)) := Lib.hid (by rw [cell_of_row _ _ _ _ _ _ A1.out.pb]; rfl)
        have K3 : Hid (w1.cell? ⟨w.heap.size, 3, none⟩ = some (.string pt)) := Lib.hid (by rw [cell_of_row _ _ _ _ _ _ A1.out.pb]; rfl)
        have K5 : Hid (w1.cell? ⟨gB, 1, none⟩ = some (.pointer (some ⟨g, j * 4, none⟩))) := Lib.hid (by rw [cell_of_row _ _ _ _ _ _ A1.out.gat, ← HLP.out]; rfl)
        have LG := Lib.hid (Array.getElem?_eq_some_iff.1 A1.out.gat).1
        have LB := Lib.hid (Array.getElem?_eq_some_iff.1 A1.out.pb).1
        go_enter Tryd.func29, Tryd.ntmps29
        go_wp2_with fail
        rw [← hw1]
        clear hw1
        refine wp_region_G _ (by kernel_rfl) ?_
        refine wpG_take (i := 0) (oi := ⟨some 4, _, _, _, _, _⟩) (v := ?_) rfl (by kernel_rfl) (by kernel_rfl) (by kernel_rfl) (Or.inl ⟨by rfl, unib_val ?_⟩) ?_; rotate_left; (focus (intro w9 hSw; go_simp; try with_reducible rfl)); simp only [Act.put, List.setIfInBounds_toArray, List.set_cons_zero, List.set_cons_succ]
        refine wpG_take (i := 1) (oi := ⟨some 5, _, _, _, _, _⟩) (v := ?_) rfl (by kernel_rfl) (by kernel_rfl) (by kernel_rfl) (Or.inl ⟨by rfl, unib_val ?_⟩) ?_; rotate_left; (focus (intro w9 hSw; go_simp; try with_reducible rfl)); simp only [Act.put, List.setIfInBounds_toArray, List.set_cons_zero, List.set_cons_succ]
        refine wpG_take (i := 2) (oi := ⟨some 6, _, _, _, _, _⟩) (v := ?_) rfl (by kernel_rfl) (by kernel_rfl) (by kernel_rfl) (Or.inl ⟨by rfl, unib_val ?_⟩) ?_; rotate_left; (focus (intro w9 hSw; go_simp; try with_reducible rfl)); simp only [Act.put, List.setIfInBounds_toArray, List.set_cons_zero, List.set_cons_succ]
        refine wpG_take (i := 3) (oi := ⟨some 7, _, _, _, _, _⟩) (v := ?_) rfl (by kernel_rfl) (by kernel_rfl) (by kernel_rfl) (Or.inl ⟨by rfl, unib_val ?_⟩) ?_; rotate_left; (focus (intro w9 hSw; have q0 := (hSw.cell (p := ⟨gB, 1, none⟩) LG.out).trans K5.out; go_simp; try with_reducible rfl)); simp only [Act.put, List.setIfInBounds_toArray, List.set_cons_zero, List.set_cons_succ]
        refine wpG_take (i := 4) (oi := ⟨some 8, _, _, _, _, _⟩) (v := (.bool true)) rfl (by kernel_rfl) (by kernel_rfl) (by kernel_rfl) (Or.inl ⟨by rfl, unib_val ?_⟩) ?_; (focus (intro w9 hSw; go_simp; try rfl)); simp only [Act.put, List.setIfInBounds_toArray, List.set_cons_zero, List.set_cons_succ]
        refine wpG_take (i := 5) (oi := ⟨some 9, _, _, _, _, _⟩) (v := ?_) rfl (by kernel_rfl) (by kernel_rfl) (by kernel_rfl) (Or.inl ⟨by rfl, unib_val ?_⟩) ?_; rotate_left; (focus (intro w9 hSw; go_simp; try with_reducible rfl)); simp only [Act.put, List.setIfInBounds_toArray, List.set_cons_zero, List.set_cons_succ]
        refine wpG_take (i := 6) (oi := ⟨some 10, _, _, _, _, _⟩) (v := ?_) rfl (by kernel_rfl) (by kernel_rfl) (by kernel_rfl) (Or.inl ⟨by rfl, unib_val ?_⟩) ?_; rotate_left; (focus (intro w9 hSw; go_simp; try with_reducible rfl)); simp only [Act.put, List.setIfInBounds_toArray, List.set_cons_zero, List.set_cons_succ]
        refine wpG_take (i := 7) (oi := ⟨some 11, _, _, _, _, _⟩) (v := ?_) rfl (by kernel_rfl) (by kernel_rfl) (by kernel_rfl) (Or.inl ⟨by rfl, unib_val ?_⟩) ?_; rotate_left; (focus (intro w9 hSw; go_simp; try with_reducible rfl)); simp only [Act.put, List.setIfInBounds_toArray, List.set_cons_zero, List.set_cons_succ]
        refine wpG_take (i := 8) (oi := ⟨some 12, _, _, _, _, _⟩) (v := ?_) rfl (by kernel_rfl) (by kernel_rfl) (by kernel_rfl) (Or.inl ⟨by rfl, unib_val ?_⟩) ?_; rotate_left; (focus (intro w9 hSw; go_simp; try with_reducible rfl)); simp only [Act.put, List.setIfInBounds_toArray, List.set_cons_zero, List.set_cons_succ]
        refine wpG_take (i := 9) (oi := ⟨some 13, _, _, _, _, _⟩) (v := ?_) rfl (by kernel_rfl) (by kernel_rfl) (by kernel_rfl) (Or.inl ⟨by rfl, unib_val ?_⟩) ?_; rotate_left; (focus (intro w9 hSw; have q0 := (hSw.cell (p := ⟨gB, 1, none⟩) LG.out).trans K5.out; go_simp; try with_reducible rfl)); simp only [Act.put, List.setIfInBounds_toArray, List.set_cons_zero, List.set_cons_succ]
        refine wpG_take (i := 10) (oi := ⟨some 14, _, _, _, _, _⟩) (v := ?_) rfl (by kernel_rfl) (by kernel_rfl) (by kernel_rfl) (Or.inl ⟨by rfl, unib_val ?_⟩) ?_; rotate_left; (focus (intro w9 hSw; go_simp; try with_reducible rfl)); simp only [Act.put, List.setIfInBounds_toArray, List.set_cons_zero, List.set_cons_succ]
        refine wpG_take (i := 11) (oi := ⟨some 15, _, _, _, _, _⟩) (v := ?_) rfl (by kernel_rfl) (by kernel_rfl) (by kernel_rfl) (Or.inl ⟨by rfl, unib_val ?_⟩) ?_; rotate_left; (focus (intro w9 hSw; go_simp; try with_reducible rfl)); simp only [Act.put, List.setIfInBounds_toArray, List.set_cons_zero, List.set_cons_succ]
        refine wpG_take (i := 12) (oi := ⟨some 16, _, _, _, _, _⟩) (v := ?_) rfl (by kernel_rfl) (by kernel_rfl) (by kernel_rfl) (Or.inl ⟨by rfl, unib_val ?_⟩) ?_; rotate_left; (focus (intro w9 hSw; have q0 := (hSw.cell (p := ⟨g, j * 4, none⟩) LX.out).trans D0.out; go_simp; try with_reducible rfl)); simp only [Act.put, List.setIfInBounds_toArray, List.set_cons_zero, List.set_cons_succ]
        refine wpG_take (i := 13) (oi := ⟨some 17, _, _, _, _, _⟩) (v := ?_) rfl (by kernel_rfl) (by kernel_rfl) (by kernel_rfl) (Or.inl ⟨by rfl, unib_val ?_⟩) ?_; rotate_left; (focus (intro w9 hSw; go_simp; try with_reducible rfl)); simp only [Act.put, List.setIfInBounds_toArray, List.set_cons_zero, List.set_cons_succ]
        refine wpG_take (i := 14) (oi := ⟨some 18, _, _, _, _, _⟩) (v := ?_) rfl (by kernel_rfl) (by kernel_rfl) (by kernel_rfl) (Or.inl ⟨by rfl, unib_val ?_⟩) ?_; rotate_left; (focus (intro w9 hSw; have q0 := (hSw.cell (p := ⟨w.heap.size, 0, none⟩) LB.out).trans K0.out; go_simp; try with_reducible rfl)); simp only [Act.put, List.setIfInBounds_toArray, List.set_cons_zero, List.set_cons_succ]
        refine wpG_take (i := 15) (oi := ⟨some 19, _, _, _, _, _⟩) (v := (.bool false)) rfl (by kernel_rfl) (by kernel_rfl) (by kernel_rfl) (Or.inl ⟨by rfl, unib_val ?_⟩) ?_; (focus (intro w9 hSw; have q0 := HC.out; go_simp; (try simp [q0]); try rfl)); simp only [Act.put, List.setIfInBounds_toArray, List.set_cons_zero, List.set_cons_succ]
        refine wpG_take (i := 16) (oi := ⟨some 20, _, _, _, _, _⟩) (v := ?_) rfl (by kernel_rfl) (by kernel_rfl) (by kernel_rfl) (Or.inl ⟨by rfl, unib_val ?_⟩) ?_; rotate_left; (focus (intro w9 hSw; go_simp; try with_reducible rfl)); simp only [Act.put, List.setIfInBounds_toArray, List.set_cons_zero, List.set_cons_succ]
        refine wpG_take (i := 17) (oi := ⟨some 21, _, _, _, _, _⟩) (v := ?_) rfl (by kernel_rfl) (by kernel_rfl) (by kernel_rfl) (Or.inl ⟨by rfl, unib_val ?_⟩) ?_; rotate_left; (focus (intro w9 hSw; go_simp; try with_reducible rfl)); simp only [Act.put, List.setIfInBounds_toArray, List.set_cons_zero, List.set_cons_succ]
        refine wpG_take (i := 18) (oi := ⟨some 22, _, _, _, _, _⟩) rfl (by kernel_rfl) (by kernel_rfl) (by kernel_rfl) (Or.inr ⟨by rfl, rfl⟩) ?_; simp only [Act.put, List.setIfInBounds_toArray, List.set_cons_zero, List.set_cons_succ]
        refine wpG_take (i := 19) (oi := ⟨some 23, _, _, _, _, _⟩) rfl (by kernel_rfl) (by kernel_rfl) (by kernel_rfl) (Or.inr ⟨by rfl, rfl⟩) ?_; simp only [Act.put, List.setIfInBounds_toArray, List.set_cons_zero, List.set_cons_succ]
        refine wpG_take (i := 20) (oi := ⟨some 24, _, _, _, _, _⟩) rfl (by kernel_rfl) (by kernel_rfl) (by kernel_rfl) (Or.inr ⟨by rfl, rfl⟩) ?_; simp only [Act.put, List.setIfInBounds_toArray, List.set_cons_zero, List.set_cons_succ]
        refine wpG_take (i := 21) (oi := ⟨some 25, _, _, _, _, _⟩) rfl (by kernel_rfl) (by kernel_rfl) (by kernel_rfl) (Or.inr ⟨by rfl, rfl⟩) ?_; simp only [Act.put, List.setIfInBounds_toArray, List.set_cons_zero, List.set_cons_succ]
        refine wpG_take (i := 22) (oi := ⟨some 26, _, _, _, _, _⟩) rfl (by kernel_rfl) (by kernel_rfl) (by kernel_rfl) (Or.inr ⟨by rfl, rfl⟩) ?_; simp only [Act.put, List.setIfInBounds_toArray, List.set_cons_zero, List.set_cons_succ]
        refine wpG_take (i := 23) (oi := ⟨some 27, _, _, _, _, _⟩) rfl (by kernel_rfl) (by kernel_rfl) (by kernel_rfl) (Or.inr ⟨by rfl, rfl⟩) ?_; simp only [Act.put, List.setIfInBounds_toArray, List.set_cons_zero, List.set_cons_succ]
        refine wpG_take (i := 24) (oi := ⟨some 28, _, _, _, _, _⟩) rfl (by kernel_rfl) (by kernel_rfl) (by kernel_rfl) (Or.inr ⟨by rfl, rfl⟩) ?_; simp only [Act.put, List.setIfInBounds_toArray, List.set_cons_zero, List.set_cons_succ]
        refine wpG_take (i := 25) (oi := ⟨some 29, _, _, _, _, _⟩) rfl (by kernel_rfl) (by kernel_rfl) (by kernel_rfl) (Or.inr ⟨by rfl, rfl⟩) ?_; simp only [Act.put, List.setIfInBounds_toArray, List.set_cons_zero, List.set_cons_succ]
        refine wpG_take (i := 26) (oi := ⟨some 30, _, _, _, _, _⟩) rfl (by kernel_rfl) (by kernel_rfl) (by kernel_rfl) (Or.inr ⟨by rfl, rfl⟩) ?_; simp only [Act.put, List.setIfInBounds_toArray, List.set_cons_zero, List.set_cons_succ]
        refine wpG_take (i := 27) (oi := ⟨some 31, _, _, _, _, _⟩) rfl (by kernel_rfl) (by kernel_rfl) (by kernel_rfl) (Or.inr ⟨by rfl, rfl⟩) ?_; simp only [Act.put, List.setIfInBounds_toArray, List.set_cons_zero, List.set_cons_succ]
        refine wpG_take (i := 28) (oi := ⟨some 32, _, _, _, _, _⟩) rfl (by kernel_rfl) (by kernel_rfl) (by kernel_rfl) (Or.inr ⟨by rfl, rfl⟩) ?_; simp only [Act.put, List.setIfInBounds_toArray, List.set_cons_zero, List.set_cons_succ]
        refine wpG_take (i := 29) (oi := ⟨some 33, _, _, _, _, _⟩) rfl (by kernel_rfl) (by kernel_rfl) (by kernel_rfl) (Or.inr ⟨by rfl, rfl⟩) ?_; simp only [Act.put, List.setIfInBounds_toArray, List.set_cons_zero, List.set_cons_succ]
        refine wpG_take (i := 30) (oi := ⟨some 34, _, _, _, _, _⟩) rfl (by kernel_rfl) (by kernel_rfl) (by kernel_rfl) (Or.inr ⟨by rfl, rfl⟩) ?_; simp only [Act.put, List.setIfInBounds_toArray, List.set_cons_zero, List.set_cons_succ]
        refine wpG_take (i := 31) (oi := ⟨some 35, _, _, _, _, _⟩) rfl (by kernel_rfl) (by kernel_rfl) (by kernel_rfl) (Or.inr ⟨by rfl, rfl⟩) ?_; simp only [Act.put, List.setIfInBounds_toArray, List.set_cons_zero, List.set_cons_succ]
        refine wpG_take (i := 32) (oi := ⟨some 36, _, _, _, _, _⟩) rfl (by kernel_rfl) (by kernel_rfl) (by kernel_rfl) (Or.inr ⟨by rfl, rfl⟩) ?_; simp only [Act.put, List.setIfInBounds_toArray, List.set_cons_zero, List.set_cons_succ]
        refine wpG_take (i := 33) (oi := ⟨some 37, _, _, _, _, _⟩) rfl (by kernel_rfl) (by kernel_rfl) (by kernel_rfl) (Or.inr ⟨by rfl, rfl⟩) ?_; simp only [Act.put, List.setIfInBounds_toArray, List.set_cons_zero, List.set_cons_succ]
        refine wpG_take (i := 34) (oi := ⟨some 38, _, _, _, _, _⟩) rfl (by kernel_rfl) (by kernel_rfl) (by kernel_rfl) (Or.inr ⟨by rfl, rfl⟩) ?_; simp only [Act.put, List.setIfInBounds_toArray, List.set_cons_zero, List.set_cons_succ]
        refine wpG_take (i := 35) (oi := ⟨some 39, _, _, _, _, _⟩) rfl (by kernel_rfl) (by kernel_rfl) (by kernel_rfl) (Or.inr ⟨by rfl, rfl⟩) ?_; simp only [Act.put, List.setIfInBounds_toArray, List.set_cons_zero, List.set_cons_succ]
        refine wpG_take (i := 36) (oi := ⟨some 40, _, _, _, _, _⟩) (v := ?_) rfl (by kernel_rfl) (by kernel_rfl) (by kernel_rfl) (Or.inl ⟨by rfl, unib_val ?_⟩) ?_; rotate_left; (focus (intro w9 hSw; go_simp; try with_reducible rfl)); simp only [Act.put, List.setIfInBounds_toArray, List.set_cons_zero, List.set_cons_succ]
        refine wpG_done (by kernel_rfl) ?_ _
        intro w2 hSw _
        have A2 := Lib.hid (A1.out.below hSw)
        clear hSw
        go_wp2_with fail
        refine wp_region_held_drew (S := fun w' => w'.heap[w.heap.size]? = w2.heap[w.heap.size]?) (by kernel_rfl) rfl (fun hS => ?_)
        have A3 := Lib.hid (A2.out.drew)
        generalize World.drew _ = w3 at *
        refine wpAnyH_take (i := 0) (oi := ⟨some 53, _, _, _, _, _⟩) (v := ?_) rfl (by kernel_rfl) (by kernel_rfl) (by kernel_rfl) (fun _ _ _ h => h) (Or.inl ⟨by rfl, ?_⟩) hS ?_; rotate_left; (focus (intro w9 hSw; (try dsimp only at hSw); go_simp; try with_reducible rfl)); simp only [Act.put, List.setIfInBounds_toArray, List.set_cons_zero, List.set_cons_succ]
        refine wpAnyH_take (i := 1) (oi := ⟨some 54, _, _, _, _, _⟩) (v := ?_) rfl (by kernel_rfl) (by kernel_rfl) (by kernel_rfl) (fun _ _ _ h => h) (Or.inl ⟨by rfl, ?_⟩) hS ?_; rotate_left; (focus (intro w9 hSw; (try dsimp only at hSw); go_simp; try with_reducible rfl)); simp only [Act.put, List.setIfInBounds_toArray, List.set_cons_zero, List.set_cons_succ]
        refine wpAnyH_take (i := 2) (oi := ⟨some 55, _, _, _, _, _⟩) (v := ?_) rfl (by kernel_rfl) (by kernel_rfl) (by kernel_rfl) (fun _ _ _ h => h) (Or.inl ⟨by rfl, ?_⟩) hS ?_; rotate_left; (focus (intro w9 hSw; (try dsimp only at hSw); go_simp; try with_reducible rfl)); simp only [Act.put, List.setIfInBounds_toArray, List.set_cons_zero, List.set_cons_succ]
        refine wpAnyH_take (i := 3) (oi := ⟨some 56, _, _, _, _, _⟩) (v := ?_) rfl (by kernel_rfl) (by kernel_rfl) (by kernel_rfl) (fun _ _ _ h => h) (Or.inl ⟨by rfl, ?_⟩) hS ?_; rotate_left; (focus (intro w9 hSw; (try dsimp only at hSw); go_simp; try with_reducible rfl)); simp only [Act.put, List.setIfInBounds_toArray, List.set_cons_zero, List.set_cons_succ]
        refine wpAnyH_take (i := 5) (oi := ⟨some 58, _, _, _, _, _⟩) (v := (KPc.v (⟨pc, pf, pl, pt⟩ : Pc))) rfl (by kernel_rfl) (by kernel_rfl) (by kernel_rfl) (fun _ _ _ h => h) (Or.inl ⟨by rfl, ?_⟩) hS ?_; (focus (intro w9 hSw; (try dsimp only at hSw); exact exec_load_at 44 _ rfl ⟨w.heap.size, 0, none⟩ rfl (load_pc (Kind.at_blk (hSw.trans A2.out.pb))))); simp only [Act.put, List.setIfInBounds_toArray, List.set_cons_zero, List.set_cons_succ]
        refine wpAnyH_ready (rs := [4, 6]) (by kernel_rfl) (by simp) (AllReadyH.cons (o := ⟨some 57, _, _, _, _, _⟩) rfl (fun K hK => ?_) (AllReadyH.cons (o := ⟨some 59, _, _, _, _, _⟩) rfl (fun K hK => ?_) AllReadyH.nil))
        · have q0 : World.cell? w3 ⟨gB, 0, none⟩ = some lv := by rw [cell_of_row _ _ _ _ _ _ A3.out.gat]; rfl
          go_simp
          refine hK.out _ _ hS (fun hS => ?_)
          clear hK K q0
          try simp only [Act.put, List.setIfInBounds_toArray, List.set_cons_zero, List.set_cons_succ]
          refine wpAnyH_ready (rs := [6]) (by kernel_rfl) (by simp) (AllReadyH.cons (o := ⟨some 59, _, _, _, _, _⟩) rfl (fun K hK => ?_) AllReadyH.nil)
          refine step_bsliceK (K := KPc) rfl (.tmp 58) rfl (⟨pc, pf, pl, pt⟩ : Pc) rfl rfl Tryd.underlying22 sizePc zeroPc nPc ?_
          have A4 := Lib.hid (A3.out.alloc (.cells (KPc.cs (⟨pc, pf, pl, pt⟩ : Pc)).toArray 44))
          refine hK.out _ _ ((Below.heap_alloc _ _ _ (Array.getElem?_eq_some_iff.1 A3.out.pb).1).trans hS) (fun hS => ?_)
          clear hK K
          try simp only [Act.put, List.setIfInBounds_toArray, List.set_cons_zero, List.set_cons_succ]
          refine wpAnyH_ready (rs := [7]) (by kernel_rfl) (by simp) (AllReadyH.cons (o := ⟨some 60, _, _, _, _, _⟩) rfl (fun K hK => ?_) AllReadyH.nil)
          refine step_append_K (K := KPc) (o := ⟨some 60, _, _, _, _, _⟩) rfl _ _ 22 rfl base 44 i0 _ 40 Tryd.underlying22 hi hz0 hz1 hz2 hzl (by omega) lv G (⟨pc, pf, pl, pt⟩ : Pc) rfl A4.out.own HGN.out rfl rfl (by have := A4.out.base; omega) ?_
          intro v5 w5 ho5 hg5
          have P5 := Lib.hid (A4.out.grow ho5 hg5 HLB.out)
          obtain ⟨g5, cap5, hv5, hbg5, hgw5, hjc5, hat5⟩ := own_last (a := G) (p := (⟨pc, pf, pl, pt⟩ : Pc)) rfl ho5
          subst hv5
          have HO5 := Lib.hid ho5
          have HG5 := Lib.hid hbg5
          clear ho5 hg5 hgw5 hjc5 hat5
          refine hK.out _ _ (P5.out.2.1.trans A2.out.pb.symm) (fun hS => ?_)
          clear hK K
          try simp only [Act.put, List.setIfInBounds_toArray, List.set_cons_zero, List.set_cons_succ]
          refine wpAnyH_take (i := 8) (oi := ⟨some 61, _, _, _, _, _⟩) (v := ?_) rfl (by kernel_rfl) (by kernel_rfl) (by kernel_rfl) (fun _ _ _ h => h) (Or.inl ⟨by rfl, ?_⟩) hS ?_; rotate_left; (focus (intro w9 hSw; (try dsimp only at hSw); go_simp; try with_reducible rfl)); simp only [Act.put, List.setIfInBounds_toArray, List.set_cons_zero, List.set_cons_succ]
          refine wpAnyH_take (i := 9) (oi := ⟨some 62, _, _, _, _, _⟩) (v := ?_) rfl (by kernel_rfl) (by kernel_rfl) (by kernel_rfl) (fun _ _ _ h => h) (Or.inl ⟨by rfl, ?_⟩) hS ?_; rotate_left; (focus (intro w9 hSw; (try dsimp only at hSw); go_simp; try with_reducible rfl)); simp only [Act.put, List.setIfInBounds_toArray, List.set_cons_zero, List.set_cons_succ]
          refine wpAnyH_ready (rs := [10]) (by kernel_rfl) (by simp) (AllReadyH.cons (o := ⟨none, _, _, _, _, _⟩) rfl (fun K hK => ?_) AllReadyH.nil)
          have q0 : w5.cell? ⟨gB, 0, none⟩ = some lv := by rw [cell_of_row _ _ _ _ _ _ P5.out.1]; rfl
          have q1 : w5.frozen? ⟨gB, 0, none⟩ = false := frozen_of_row _ _ _ _ _ P5.out.1
          have G6 := Lib.hid (gat_put0 P5.out.1 (.slice (some ⟨g5, 0, none⟩) (G.length + 1) cap5))
          have O6 := Lib.hid (HO5.out.kept (gat_set w5 gB 0 (.slice (some ⟨g5, 0, none⟩) (G.length + 1) cap5)) (.inr (fun e => by have := own_base HO5.out e; have := HGB.out; omega)))
          have K6 := Lib.hid (P5.out.2.2.set (j := 0) (.slice (some ⟨g5, 0, none⟩) (G.length + 1) cap5))
          go_simp
          refine hK.out _ _ ((Below.heap_setCell _ _ _ _ (by have := HPB.out; dsimp only; omega)).trans hS) (fun hS => ?_)
          clear hK K q0 q1 hS
          try simp only [Act.put, List.setIfInBounds_toArray, List.set_cons_zero, List.set_cons_succ]
          refine wpAnyH_done (by kernel_rfl) ?_ _
          generalize w5.setCell ⟨gB, 0, none⟩ (.slice (some ⟨g5, 0, none⟩) (G.length + 1) cap5) = w6 at *
          go_wp2_with fail
          refine wp_region_held_drew (S := fun w' => w'.heap[gB]? = w6.heap[gB]? ∨ w'.heap[gB]? = some (.cells #[.slice (some ⟨g5, 0, none⟩) (G.length + 1) cap5, .pointer (some ⟨g5, G.length * 4, none⟩)] 57)) (by kernel_rfl) (.inl rfl) (fun hS => ?_)
          have G7 := Lib.hid (show (World.drew w6).heap[gB]? = _ from G6.out)
          have O7 := Lib.hid (show (World.drew w6).ownsRow base 44 KPc.n (.slice (some ⟨g5, 0, none⟩) (G.length + 1) cap5) (G.length + 1) ((G ++ [(⟨pc, pf, pl, pt⟩ : Pc)]).flatMap KPc.cs) from O6.out)
          have K7 := Lib.hid (show KeepG gB base w (World.drew w6) from K6.out.drew)
          generalize World.drew w6 = w7 at *
          have HC0 : Hid (∀ w9 : World, (w9.heap[gB]? = w6.heap[gB]? ∨ w9.heap[gB]? = some (.cells #[.slice (some ⟨g5, 0, none⟩) (G.length + 1) cap5, .pointer (some ⟨g5, G.length * 4, none⟩)] 57)) → w9.cell? ⟨gB, 0, none⟩ = some (.slice (some ⟨g5, 0, none⟩) (G.length + 1) cap5)) := Lib.hid (fun w9 h => by
            rcases h with h | h
            · rw [cell_of_row _ _ _ _ _ _ (h.trans G6.out)]; rfl
            · rw [cell_of_row _ _ _ _ _ _ h]; rfl)
          have FW5 : Hid (IntKind.i64.wrap (((G.length + 1 : Nat) : Int) - 1) = (G.length : Int)) := Lib.hid (by rw [IntWalk.i64_in _ (by have := HGN.out; omega)]; omega)
          have FW6 : Hid (IntKind.i64.wrap (G.length : Int) = (G.length : Int)) := Lib.hid (IntWalk.i64_in _ (by have := HGN.out; omega))
          have HIX := Lib.hid (fun w9 => pc_ix g5 G.length cap5 (G.length : Int) rfl w9)
          refine wpAnyH_take (i := 0) (oi := ⟨some 63, _, _, _, _, _⟩) (v := ?_) rfl (by kernel_rfl) (by kernel_rfl) (by kernel_rfl) (fun _ _ _ h => h) (Or.inl ⟨by rfl, ?_⟩) hS ?_; rotate_left; (focus (intro w9 hSw; (try dsimp only at hSw); go_simp; try with_reducible rfl)); simp only [Act.put, List.setIfInBounds_toArray, List.set_cons_zero, List.set_cons_succ]
          refine wpAnyH_take (i := 1) (oi := ⟨some 64, _, _, _, _, _⟩) (v := ?_) rfl (by kernel_rfl) (by kernel_rfl) (by kernel_rfl) (fun _ _ _ h => h) (Or.inl ⟨by rfl, ?_⟩) hS ?_; rotate_left; (focus (intro w9 hSw; (try dsimp only at hSw); go_simp; try with_reducible rfl)); simp only [Act.put, List.setIfInBounds_toArray, List.set_cons_zero, List.set_cons_succ]
          refine wpAnyH_take (i := 2) (oi := ⟨some 65, _, _, _, _, _⟩) (v := ?_) rfl (by kernel_rfl) (by kernel_rfl) (by kernel_rfl) (fun _ _ _ h => h) (Or.inl ⟨by rfl, ?_⟩) hS ?_; rotate_left; (focus (intro w9 hSw; (try dsimp only at hSw); go_simp; try with_reducible rfl)); simp only [Act.put, List.setIfInBounds_toArray, List.set_cons_zero, List.set_cons_succ]
          refine wpAnyH_take (i := 3) (oi := ⟨some 66, _, _, _, _, _⟩) (v := ?_) rfl (by kernel_rfl) (by kernel_rfl) (by kernel_rfl) (fun _ _ _ h => h) (Or.inl ⟨by rfl, ?_⟩) hS ?_; rotate_left; (focus (intro w9 hSw; (try dsimp only at hSw); go_simp; try with_reducible rfl)); simp only [Act.put, List.setIfInBounds_toArray, List.set_cons_zero, List.set_cons_succ]
          refine wpAnyH_take (i := 4) (oi := ⟨some 67, _, _, _, _, _⟩) (v := ?_) rfl (by kernel_rfl) (by kernel_rfl) (by kernel_rfl) (fun _ _ _ h => h) (Or.inl ⟨by rfl, ?_⟩) hS ?_; rotate_left; (focus (intro w9 hSw; (try dsimp only at hSw); have q0 := HC0.out w9 hSw; go_simp; try with_reducible rfl)); simp only [Act.put, List.setIfInBounds_toArray, List.set_cons_zero, List.set_cons_succ]
          refine wpAnyH_take (i := 5) (oi := ⟨some 68, _, _, _, _, _⟩) (v := ?_) rfl (by kernel_rfl) (by kernel_rfl) (by kernel_rfl) (fun _ _ _ h => h) (Or.inl ⟨by rfl, ?_⟩) hS ?_; rotate_left; (focus (intro w9 hSw; (try dsimp only at hSw); go_simp; try with_reducible rfl)); simp only [Act.put, List.setIfInBounds_toArray, List.set_cons_zero, List.set_cons_succ]
          refine wpAnyH_take (i := 6) (oi := ⟨some 69, _, _, _, _, _⟩) (v := ?_) rfl (by kernel_rfl) (by kernel_rfl) (by kernel_rfl) (fun _ _ _ h => h) (Or.inl ⟨by rfl, ?_⟩) hS ?_; rotate_left; (focus (intro w9 hSw; (try dsimp only at hSw); go_simp; try with_reducible rfl)); simp only [Act.put, List.setIfInBounds_toArray, List.set_cons_zero, List.set_cons_succ]
          refine wpAnyH_take (i := 7) (oi := ⟨some 70, _, _, _, _, _⟩) (v := ?_) rfl (by kernel_rfl) (by kernel_rfl) (by kernel_rfl) (fun _ _ _ h => h) (Or.inl ⟨by rfl, ?_⟩) hS ?_; rotate_left; (focus (intro w9 hSw; (try dsimp only at hSw); go_simp; try with_reducible rfl)); simp only [Act.put, List.setIfInBounds_toArray, List.set_cons_zero, List.set_cons_succ]
          refine wpAnyH_take (i := 8) (oi := ⟨some 71, _, _, _, _, _⟩) (v := ?_) rfl (by kernel_rfl) (by kernel_rfl) (by kernel_rfl) (fun _ _ _ h => h) (Or.inl ⟨by rfl, ?_⟩) hS ?_; rotate_left; (focus (intro w9 hSw; (try dsimp only at hSw); have q0 := HC0.out w9 hSw; go_simp; try with_reducible rfl)); simp only [Act.put, List.setIfInBounds_toArray, List.set_cons_zero, List.set_cons_succ]
          refine wpAnyH_take (i := 9) (oi := ⟨some 72, _, _, _, _, _⟩) (v := ?_) rfl (by kernel_rfl) (by kernel_rfl) (by kernel_rfl) (fun _ _ _ h => h) (Or.inl ⟨by rfl, ?_⟩) hS ?_; rotate_left; (focus (intro w9 hSw; (try dsimp only at hSw); go_simp; try with_reducible rfl)); simp only [Act.put, List.setIfInBounds_toArray, List.set_cons_zero, List.set_cons_succ]
          refine wpAnyH_take (i := 10) (oi := ⟨some 73, _, _, _, _, _⟩) (v := (.int .i64 (G.length : Int))) rfl (by kernel_rfl) (by kernel_rfl) (by kernel_rfl) (fun _ _ _ h => h) (Or.inl ⟨by rfl, ?_⟩) hS ?_; (focus (intro w9 hSw; (try dsimp only at hSw); have q0 := FW5.out; have q1 := FW6.out; go_simp; try rfl)); simp only [Act.put, List.setIfInBounds_toArray, List.set_cons_zero, List.set_cons_succ]
          refine wpAnyH_take (i := 11) (oi := ⟨some 74, _, _, _, _, _⟩) (v := (.pointer (some ⟨g5, G.length * 4, none⟩))) rfl (by kernel_rfl) (by kernel_rfl) (by kernel_rfl) (fun _ _ _ h => h) (Or.inl ⟨by rfl, ?_⟩) hS ?_; (focus (intro w9 hSw; (try dsimp only at hSw); have q0 := HIX.out w9; go_simp; try rfl)); simp only [Act.put, List.setIfInBounds_toArray, List.set_cons_zero, List.set_cons_succ]
          refine wpAnyH_take (i := 12) (oi := ⟨some 75, _, _, _, _, _⟩) (v := ?_) rfl (by kernel_rfl) (by kernel_rfl) (by kernel_rfl) (fun _ _ _ h => h) (Or.inl ⟨by rfl, ?_⟩) hS ?_; rotate_left; (focus (intro w9 hSw; (try dsimp only at hSw); go_simp; try with_reducible rfl)); simp only [Act.put, List.setIfInBounds_toArray, List.set_cons_zero, List.set_cons_succ]
          refine wpAnyH_take (i := 13) (oi := ⟨some 76, _, _, _, _, _⟩) (v := ?_) rfl (by kernel_rfl) (by kernel_rfl) (by kernel_rfl) (fun _ _ _ h => h) (Or.inl ⟨by rfl, ?_⟩) hS ?_; rotate_left; (focus (intro w9 hSw; (try dsimp only at hSw); go_simp; try with_reducible rfl)); simp only [Act.put, List.setIfInBounds_toArray, List.set_cons_zero, List.set_cons_succ]
          refine wpAnyH_ready (rs := [14]) (by kernel_rfl) (by simp) (AllReadyH.cons (o := ⟨none, _, _, _, _, _⟩) rfl (fun K hK => ?_) AllReadyH.nil)
          have q0 : w7.cell? ⟨gB, 1, none⟩ = some (lastP lv) := by rw [cell_of_row _ _ _ _ _ _ G7.out]; rfl
          have q1 : w7.frozen? ⟨gB, 1, none⟩ = false := frozen_of_row _ _ _ _ _ G7.out
          have G8 := Lib.hid (gat_put1 G7.out (.pointer (some ⟨g5, G.length * 4, none⟩)))
          have O8 := Lib.hid (O7.out.kept (gat_set w7 gB 1 (.pointer (some ⟨g5, G.length * 4, none⟩))) (.inr (fun e => by have := own_base O7.out e; have := HGB.out; omega)))
          have K8 := Lib.hid (K7.out.set (j := 1) (.pointer (some ⟨g5, G.length * 4, none⟩)))
          go_simp
          refine hK.out _ _ (.inr G8.out) (fun hS => ?_)
          clear hK K q0 q1 hS
          try simp only [Act.put, List.setIfInBounds_toArray, List.set_cons_zero, List.set_cons_succ]
          refine wpAnyH_done (by kernel_rfl) ?_ _
          go_wp2
          have FV := HV.out (G ++ [(⟨pc, pf, pl, pt⟩ : Pc)]) HPA.out _ ⟨_, by have h := G8.out; exact lastP_new h, by rw [List.length_append]; exact O8.out⟩ K8.out
          first | exact FV | (go_end0; exact FV) | (refine bodyPost_ret (v := .tuple #[]) (by simp [results, Tryd.results29]) rfl FV) | (exact ⟨rfl, .tuple #[], by simp [results, Tryd.results29], FV⟩)
        · refine step_bsliceK (K := KPc) rfl (.tmp 58) rfl (⟨pc, pf, pl, pt⟩ : Pc) rfl rfl Tryd.underlying22 sizePc zeroPc nPc ?_
          have A4 := Lib.hid (A3.out.alloc (.cells (KPc.cs (⟨pc, pf, pl, pt⟩ : Pc)).toArray 44))
          refine hK.out _ _ ((Below.heap_alloc _ _ _ (Array.getElem?_eq_some_iff.1 A3.out.pb).1).trans hS) (fun hS => ?_)
          clear hK K
          try simp only [Act.put, List.setIfInBounds_toArray, List.set_cons_zero, List.set_cons_succ]
          refine wpAnyH_ready (rs := [4]) (by kernel_rfl) (by simp) (AllReadyH.cons (o := ⟨some 57, _, _, _, _, _⟩) rfl (fun K hK => ?_) AllReadyH.nil)
          have q0 : World.cell? (w3.alloc (.cells (KPc.cs (⟨pc, pf, pl, pt⟩ : Pc)).toArray 44)) ⟨gB, 0, none⟩ = some lv := by rw [cell_of_row _ _ _ _ _ _ A4.out.gat]; rfl
          go_simp
          refine hK.out _ _ hS (fun hS => ?_)
          clear hK K q0
          try simp only [Act.put, List.setIfInBounds_toArray, List.set_cons_zero, List.set_cons_succ]
          refine wpAnyH_ready (rs := [7]) (by kernel_rfl) (by simp) (AllReadyH.cons (o := ⟨some 60, _, _, _, _, _⟩) rfl (fun K hK => ?_) AllReadyH.nil)
          refine step_append_K (K := KPc) (o := ⟨some 60, _, _, _, _, _⟩) rfl _ _ 22 rfl base 44 i0 _ 40 Tryd.underlying22 hi hz0 hz1 hz2 hzl (by omega) lv G (⟨pc, pf, pl, pt⟩ : Pc) rfl A4.out.own HGN.out rfl rfl (by have := A4.out.base; omega) ?_
          intro v5 w5 ho5 hg5
          have P5 := Lib.hid (A4.out.grow ho5 hg5 HLB.out)
          obtain ⟨g5, cap5, hv5, hbg5, hgw5, hjc5, hat5⟩ := own_last (a := G) (p := (⟨pc, pf, pl, pt⟩ : Pc)) rfl ho5
          subst hv5
          have HO5 := Lib.hid ho5
          have HG5 := Lib.hid hbg5
          clear ho5 hg5 hgw5 hjc5 hat5
          refine hK.out _ _ (P5.out.2.1.trans A2.out.pb.symm) (fun hS => ?_)
          clear hK K
          try simp only [Act.put, List.setIfInBounds_toArray, List.set_cons_zero, List.set_cons_succ]
          refine wpAnyH_take (i := 8) (oi := ⟨some 61, _, _, _, _, _⟩) (v := ?_) rfl (by kernel_rfl) (by kernel_rfl) (by kernel_rfl) (fun _ _ _ h => h) (Or.inl ⟨by rfl, ?_⟩) hS ?_; rotate_left; (focus (intro w9 hSw; (try dsimp only at hSw); go_simp; try with_reducible rfl)); simp only [Act.put, List.setIfInBounds_toArray, List.set_cons_zero, List.set_cons_succ]
          refine wpAnyH_take (i := 9) (oi := ⟨some 62, _, _, _, _, _⟩) (v := ?_) rfl (by kernel_rfl) (by kernel_rfl) (by kernel_rfl) (fun _ _ _ h => h) (Or.inl ⟨by rfl, ?_⟩) hS ?_; rotate_left; (focus (intro w9 hSw; (try dsimp only at hSw); go_simp; try with_reducible rfl)); simp only [Act.put, List.setIfInBounds_toArray, List.set_cons_zero, List.set_cons_succ]
          refine wpAnyH_ready (rs := [10]) (by kernel_rfl) (by simp) (AllReadyH.cons (o := ⟨none, _, _, _, _, _⟩) rfl (fun K hK => ?_) AllReadyH.nil)
          have q0 : w5.cell? ⟨gB, 0, none⟩ = some lv := by rw [cell_of_row _ _ _ _ _ _ P5.out.1]; rfl
          have q1 : w5.frozen? ⟨gB, 0, none⟩ = false := frozen_of_row _ _ _ _ _ P5.out.1
          have G6 := Lib.hid (gat_put0 P5.out.1 (.slice (some ⟨g5, 0, none⟩) (G.length + 1) cap5))
          have O6 := Lib.hid (HO5.out.kept (gat_set w5 gB 0 (.slice (some ⟨g5, 0, none⟩) (G.length + 1) cap5)) (.inr (fun e => by have := own_base HO5.out e; have := HGB.out; omega)))
          have K6 := Lib.hid (P5.out.2.2.set (j := 0) (.slice (some ⟨g5, 0, none⟩) (G.length + 1) cap5))
          go_simp
          refine hK.out _ _ ((Below.heap_setCell _ _ _ _ (by have := HPB.out; dsimp only; omega)).trans hS) (fun hS => ?_)
          clear hK K q0 q1 hS
          try simp only [Act.put, List.setIfInBounds_toArray, List.set_cons_zero, List.set_cons_succ]
          refine wpAnyH_done (by kernel_rfl) ?_ _
          generalize w5.setCell ⟨gB, 0, none⟩ (.slice (some ⟨g5, 0, none⟩) (G.length + 1) cap5) = w6 at *
          go_wp2_with fail
          refine wp_region_held_drew (S := fun w' => w'.heap[gB]? = w6.heap[gB]? ∨ w'.heap[gB]? = some (.cells #[.slice (some ⟨g5, 0, none⟩) (G.length + 1) cap5, .pointer (some ⟨g5, G.length * 4, none⟩)] 57)) (by kernel_rfl) (.inl rfl) (fun hS => ?_)
          have G7 := Lib.hid (show (World.drew w6).heap[gB]? = _ from G6.out)
          have O7 := Lib.hid (show (World.drew w6).ownsRow base 44 KPc.n (.slice (some ⟨g5, 0, none⟩) (G.length + 1) cap5) (G.length + 1) ((G ++ [(⟨pc, pf, pl, pt⟩ : Pc)]).flatMap KPc.cs) from O6.out)
          have K7 := Lib.hid (show KeepG gB base w (World.drew w6) from K6.out.drew)
          generalize World.drew w6 = w7 at *
          have HC0 : Hid (∀ w9 : World, (w9.heap[gB]? = w6.heap[gB]? ∨ w9.heap[gB]? = some (.cells #[.slice (some ⟨g5, 0, none⟩) (G.length + 1) cap5, .pointer (some ⟨g5, G.length * 4, none⟩)] 57)) → w9.cell? ⟨gB, 0, none⟩ = some (.slice (some ⟨g5, 0, none⟩) (G.length + 1) cap5)) := Lib.hid (fun w9 h => by
            rcases h with h | h
            · rw [cell_of_row _ _ _ _ _ _ (h.trans G6.out)]; rfl
            · rw [cell_of_row _ _ _ _ _ _ h]; rfl)
          have FW5 : Hid (IntKind.i64.wrap (((G.length + 1 : Nat) : Int) - 1) = (G.length : Int)) := Lib.hid (by rw [IntWalk.i64_in _ (by have := HGN.out; omega)]; omega)
          have FW6 : Hid (IntKind.i64.wrap (G.length : Int) = (G.length : Int)) := Lib.hid (IntWalk.i64_in _ (by have := HGN.out; omega))
          have HIX := Lib.hid (fun w9 => pc_ix g5 G.length cap5 (G.length : Int) rfl w9)
          refine wpAnyH_take (i := 0) (oi := ⟨some 63, _, _, _, _, _⟩) (v := ?_) rfl (by kernel_rfl) (by kernel_rfl) (by kernel_rfl) (fun _ _ _ h => h) (Or.inl ⟨by rfl, ?_⟩) hS ?_; rotate_left; (focus (intro w9 hSw; (try dsimp only at hSw); go_simp; try with_reducible rfl)); simp only [Act.put, List.setIfInBounds_toArray, List.set_cons_zero, List.set_cons_succ]
          refine wpAnyH_take (i := 1) (oi := ⟨some 64, _, _, _, _, _⟩) (v := ?_) rfl (by kernel_rfl) (by kernel_rfl) (by kernel_rfl) (fun _ _ _ h => h) (Or.inl ⟨by rfl, ?_⟩) hS ?_; rotate_left; (focus (intro w9 hSw; (try dsimp only at hSw); go_simp; try with_reducible rfl)); simp only [Act.put, List.setIfInBounds_toArray, List.set_cons_zero, List.set_cons_succ]
          refine wpAnyH_take (i := 2) (oi := ⟨some 65, _, _, _, _, _⟩) (v := ?_) rfl (by kernel_rfl) (by kernel_rfl) (by kernel_rfl) (fun _ _ _ h => h) (Or.inl ⟨by rfl, ?_⟩) hS ?_; rotate_left; (focus (intro w9 hSw; (try dsimp only at hSw); go_simp; try with_reducible rfl)); simp only [Act.put, List.setIfInBounds_toArray, List.set_cons_zero, List.set_cons_succ]
          refine wpAnyH_take (i := 3) (oi := ⟨some 66, _, _, _, _, _⟩) (v := ?_) rfl (by kernel_rfl) (by kernel_rfl) (by kernel_rfl) (fun _ _ _ h => h) (Or.inl ⟨by rfl, ?_⟩) hS ?_; rotate_left; (focus (intro w9 hSw; (try dsimp only at hSw); go_simp; try with_reducible rfl)); simp only [Act.put, List.setIfInBounds_toArray, List.set_cons_zero, List.set_cons_succ]
          refine wpAnyH_take (i := 4) (oi := ⟨some 67, _, _, _, _, _⟩) (v := ?_) rfl (by kernel_rfl) (by kernel_rfl) (by kernel_rfl) (fun _ _ _ h => h) (Or.inl ⟨by rfl, ?_⟩) hS ?_; rotate_left; (focus (intro w9 hSw; (try dsimp only at hSw); have q0 := HC0.out w9 hSw; go_simp; try with_reducible rfl)); simp only [Act.put, List.setIfInBounds_toArray, List.set_cons_zero, List.set_cons_succ]
          refine wpAnyH_take (i := 5) (oi := ⟨some 68, _, _, _, _, _⟩) (v := ?_) rfl (by kernel_rfl) (by kernel_rfl) (by kernel_rfl) (fun _ _ _ h => h) (Or.inl ⟨by rfl, ?_⟩) hS ?_; rotate_left; (focus (intro w9 hSw; (try dsimp only at hSw); go_simp; try with_reducible rfl)); simp only [Act.put, List.setIfInBounds_toArray, List.set_cons_zero, List.set_cons_succ]
          refine wpAnyH_take (i := 6) (oi := ⟨some 69, _, _, _, _, _⟩) (v := ?_) rfl (by kernel_rfl) (by kernel_rfl) (by kernel_rfl) (fun _ _ _ h => h) (Or.inl ⟨by rfl, ?_⟩) hS ?_; rotate_left; (focus (intro w9 hSw; (try dsimp only at hSw); go_simp; try with_reducible rfl)); simp only [Act.put, List.setIfInBounds_toArray, List.set_cons_zero, List.set_cons_succ]
          refine wpAnyH_take (i := 7) (oi := ⟨some 70, _, _, _, _, _⟩) (v := ?_) rfl (by kernel_rfl) (by kernel_rfl) (by kernel_rfl) (fun _ _ _ h => h) (Or.inl ⟨by rfl, ?_⟩) hS ?_; rotate_left; (focus (intro w9 hSw; (try dsimp only at hSw); go_simp; try with_reducible rfl)); simp only [Act.put, List.setIfInBounds_toArray, List.set_cons_zero, List.set_cons_succ]
          refine wpAnyH_take (i := 8) (oi := ⟨some 71, _, _, _, _, _⟩) (v := ?_) rfl (by kernel_rfl) (by kernel_rfl) (by kernel_rfl) (fun _ _ _ h => h) (Or.inl ⟨by rfl, ?_⟩) hS ?_; rotate_left; (focus (intro w9 hSw; (try dsimp only at hSw); have q0 := HC0.out w9 hSw; go_simp; try with_reducible rfl)); simp only [Act.put, List.setIfInBounds_toArray, List.set_cons_zero, List.set_cons_succ]
          refine wpAnyH_take (i := 9) (oi := ⟨some 72, _, _, _, _, _⟩) (v := ?_) rfl (by kernel_rfl) (by kernel_rfl) (by kernel_rfl) (fun _ _ _ h => h) (Or.inl ⟨by rfl, ?_⟩) hS ?_; rotate_left; (focus (intro w9 hSw; (try dsimp only at hSw); go_simp; try with_reducible rfl)); simp only [Act.put, List.setIfInBounds_toArray, List.set_cons_zero, List.set_cons_succ]
          refine wpAnyH_take (i := 10) (oi := ⟨some 73, _, _, _, _, _⟩) (v := (.int .i64 (G.length : Int))) rfl (by kernel_rfl) (by kernel_rfl) (by kernel_rfl) (fun _ _ _ h => h) (Or.inl ⟨by rfl, ?_⟩) hS ?_; (focus (intro w9 hSw; (try dsimp only at hSw); have q0 := FW5.out; have q1 := FW6.out; go_simp; try rfl)); simp only [Act.put, List.setIfInBounds_toArray, List.set_cons_zero, List.set_cons_succ]
          refine wpAnyH_take (i := 11) (oi := ⟨some 74, _, _, _, _, _⟩) (v := (.pointer (some ⟨g5, G.length * 4, none⟩))) rfl (by kernel_rfl) (by kernel_rfl) (by kernel_rfl) (fun _ _ _ h => h) (Or.inl ⟨by rfl, ?_⟩) hS ?_; (focus (intro w9 hSw; (try dsimp only at hSw); have q0 := HIX.out w9; go_simp; try rfl)); simp only [Act.put, List.setIfInBounds_toArray, List.set_cons_zero, List.set_cons_succ]
          refine wpAnyH_take (i := 12) (oi := ⟨some 75, _, _, _, _, _⟩) (v := ?_) rfl (by kernel_rfl) (by kernel_rfl) (by kernel_rfl) (fun _ _ _ h => h) (Or.inl ⟨by rfl, ?_⟩) hS ?_; rotate_left; (focus (intro w9 hSw; (try dsimp only at hSw); go_simp; try with_reducible rfl)); simp only [Act.put, List.setIfInBounds_toArray, List.set_cons_zero, List.set_cons_succ]
          refine wpAnyH_take (i := 13) (oi := ⟨some 76, _, _, _, _, _⟩) (v := ?_) rfl (by kernel_rfl) (by kernel_rfl) (by kernel_rfl) (fun _ _ _ h => h) (Or.inl ⟨by rfl, ?_⟩) hS ?_; rotate_left; (focus (intro w9 hSw; (try dsimp only at hSw); go_simp; try with_reducible rfl)); simp only [Act.put, List.setIfInBounds_toArray, List.set_cons_zero, List.set_cons_succ]
          refine wpAnyH_ready (rs := [14]) (by kernel_rfl) (by simp) (AllReadyH.cons (o := ⟨none, _, _, _, _, _⟩) rfl (fun K hK => ?_) AllReadyH.nil)
          have q0 : w7.cell? ⟨gB, 1, none⟩ = some (lastP lv) := by rw [cell_of_row _ _ _ _ _ _ G7.out]; rfl
          have q1 : w7.frozen? ⟨gB, 1, none⟩ = false := frozen_of_row _ _ _ _ _ G7.out
          have G8 := Lib.hid (gat_put1 G7.out (.pointer (some ⟨g5, G.length * 4, none⟩)))
          have O8 := Lib.hid (O7.out.kept (gat_set w7 gB 1 (.pointer (some ⟨g5, G.length * 4, none⟩))) (.inr (fun e => by have := own_base O7.out e; have := HGB.out; omega)))
          have K8 := Lib.hid (K7.out.set (j := 1) (.pointer (some ⟨g5, G.length * 4, none⟩)))
          go_simp
          refine hK.out _ _ (.inr G8.out) (fun hS => ?_)
          clear hK K q0 q1 hS
          try simp only [Act.put, List.setIfInBounds_toArray, List.set_cons_zero, List.set_cons_succ]
          refine wpAnyH_done (by kernel_rfl) ?_ _
          go_wp2
          have FV := HV.out (G ++ [(⟨pc, pf, pl, pt⟩ : Pc)]) HPA.out _ ⟨_, by have h := G8.out; exact lastP_new h, by rw [List.length_append]; exact O8.out⟩ K8.out
          first | exact FV | (go_end0; exact FV) | (refine bodyPost_ret (v := .tuple #[]) (by simp [results, Tryd.results29]) rfl FV) | (exact ⟨rfl, .tuple #[], by simp [results, Tryd.results29], FV⟩)
end Go.Proofs.YtnencoainacpoaaDoor

end
section
/-
  What a gathering's told answers. Nothing that was there is written.
-/
namespace Go.Proofs.YtnencoainacpoaaDoor
open Go.RowKit WM
set_option linter.unusedVariables false
set_option maxRecDepth 100000
theorem step_store_to {P : Program} {ops : Array Oper} {o : Oper} {a : Act} {KK : Act → World → Prop} {Q : Exit → Act → World → Prop} {E : Prop} {X X' : World} (hgd : o.guard = none) (ty : TypeId) (x y : Operand) (hop : o.op = .store ty x y) (ad : Addr) (v : Value) (hx : a.eval x = .pointer (some ad)) (hy : a.eval y = v) (hst : (storeVar ty ad v).run P X = .ok () X')
    (h : KK (a.put o.dst undef) X') : if Region.wanted o (yielded ops a.tmps) = true then Oper.wp P o a X KK Q else E := by
  have hw : Region.wanted o (yielded ops a.tmps) = true := by simp [Region.wanted, hgd]
  rw [if_pos hw]
  unfold Oper.wp execOp
  simp only [hop, hx, hy, Instr.storeAt, Instr.sureAddr, Sem.run_bind, Sem.run_pure, Result.andThen_ok, hst]
  exact h
theorem pc_ixN (g n k cap : Nat) (hk : k < n) (I : Int) (e : I = k) (X : World) : (Instr.indexAt 22 (.slice (some ⟨g, 0, none⟩) n cap) (.int .i64 I)).run Tryd.prog X = .ok (.pointer (some ⟨g, k * 4, none⟩)) X := by
  have h := Kind.ix (K := KPc) (P := Tryd.prog) (b := g) (off := 0) (len := n) (cap := cap) (i := k) (ts := 22) Tryd.underlying22 (fun w => sizePc w) hk I e X
  rw [Nat.zero_add] at h
  exact h
theorem build_txt11 (s : ByteArray) (w : World) : (Instr.build 44 #[(3, .string s)]).run Tryd.prog w = .ok (KPc.v ⟨false, 0, 0, s⟩) w := run_build w _ _ _ (by kernel_rfl)
def ToldPost (w : World) (gB base : Nat) (L : List Pc) (e : Ending) (w' : World) : Prop := ∃ v, e = .returned v ∧ w'.ownsRow base 44 KPc.n v L.length (L.flatMap KPc.cs) ∧ KeepG gB base w w'
theorem tl_split {s : ByteArray} {G : List Pc} {k : Nat} (h : k < G.length) : tl s (G.take k) ++ G.drop k = tl s (G.take k) ++ G.getD k pc0 :: G.drop (k + 1) := by
  rw [List.drop_eq_getElem_cons h, List.getD_eq_getElem?_getD, List.getElem?_eq_getElem h]
  rfl
theorem tl_step {s : ByteArray} {G : List Pc} {k : Nat} (h : k < G.length) : tl s (G.take (k + 1)) ++ G.drop (k + 1) = tl s (G.take k) ++ tlp s (G.getD k pc0) :: G.drop (k + 1) := by
  rw [List.take_succ_eq_append_getElem h, tl, List.map_append, List.append_assoc, List.getD_eq_getElem?_getD, List.getElem?_eq_getElem h]
  rfl
set_option maxHeartbeats 8000000 in
theorem told_any (gB base : Nat) (G : List Pc) (s : ByteArray) (w : World) (h : GatAt w gB base G) (hgb : gB < base) (hbw : base ≤ w.heap.size) (hG : G.length ≤ 1000000) (hs : s.size ≤ 1000000) (hgs : ∀ x ∈ G, x.cp = false → 0 ≤ x.fr ∧ 0 ≤ x.ln ∧ x.fr + x.ln ≤ s.size) :
    Calls Tryd.prog 31 #[.pointer (some ⟨gB, 0, none⟩), .string s] w (ToldPost w gB base (tl s G)) := by
  obtain ⟨lv, hgat, hown⟩ := h
  obtain ⟨n, hn⟩ : ∃ n, n = G.length := ⟨_, rfl⟩
  rw [← hn] at hown hG
  have HN := Lib.hid hn.symm
  have HV : Hid (∀ v w', w'.ownsRow base 44 KPc.n v n ((tl s G).flatMap KPc.cs) → KeepG gB base w w' → ToldPost w gB base (tl s G) (.returned v) w') := Lib.hid (fun v w' h1 h2 => ⟨v, rfl, by rw [show (tl s G).length = n by rw [tl, List.length_map, hn]]; exact h1, h2⟩)
  have HL0 := Lib.hid (show tl s (G.take 0) ++ G.drop 0 = G from rfl)
  have HLE := Lib.hid (show tl s (G.take n) ++ G.drop n = tl s G by rw [hn, List.take_of_length_le (Nat.le_refl _), List.drop_eq_nil_of_le (Nat.le_refl _), List.append_nil])
  generalize ToldPost w gB base (tl s G) = RR at *
  obtain ⟨A, c0, rfl⟩ : ∃ A c0, lv = .slice A n c0 := by
    rcases hown.2 with ⟨h1, h2⟩ | ⟨g, cp, cur, h1, _⟩
    · exact ⟨none, 0, by rw [h1, h2]⟩
    · exact ⟨_, cp, h1⟩
  have G0 := Lib.hid hgat
  have O0 := Lib.hid hown
  have k0 : w.cell? ⟨gB, 0, none⟩ = some (.slice A n c0) := by rw [cell_of_row _ _ _ _ _ _ hgat]; rfl
  have HGS := Lib.hid hgs
  have HBW := Lib.hid hbw
  have HGB := Lib.hid hgb
  have hz := zeroPc
  rw [pc_v] at hz
  dsimp only [pc0] at hz
  clear hgat hown hgs hn
  go_enter Tryd.func31, Tryd.ntmps31
  go_wp2
  go_loopw [12] (fun i wr => ∃ k : Nat, k ≤ n ∧ i = .int .i64 k ∧ wr.heap[gB]? = some (.cells #[.slice A n c0, lastP (.slice A n c0)] 57) ∧ wr.ownsRow base 44 KPc.n (.slice A n c0) n ((tl s (G.take k) ++ G.drop k).flatMap KPc.cs) ∧ KeepG gB base w wr ∧ base ≤ wr.heap.size) (fun i _ => n - (intOf i).toNat)
  case atStart => exact ⟨0, Nat.zero_le _, rfl, G0.out, by rw [HL0.out]; exact O0.out, KeepG.refl _ _ _, HBW.out⟩
  case round =>
    obtain ⟨k, hk, rfl, hgat, hown, hkw, hbase⟩ := hrel
    have HKW := Lib.hid hkw
    have HBS := Lib.hid hbase
    by_cases hlt : k < n
    · have t2 : (k : Int) < (n : Int) := by omega
      have hkG : k < G.length := by rw [HN.out]; exact hlt
      have HST := Lib.hid (tl_step (s := s) hkG)
      rw [tl_split hkG] at hown
      have HAK := Lib.hid (show (tl s (G.take k)).length = k by rw [tl, List.length_map, List.length_take]; omega)
      have hgx := HGS.out (G.getD k pc0) (by rw [List.getD_eq_getElem?_getD, List.getElem?_eq_getElem hkG]; exact List.getElem_mem _)
      have HLN := Lib.hid (show (tl s (G.take k) ++ G.getD k pc0 :: G.drop (k + 1)).length = n by rw [List.length_append, List.length_cons, List.length_drop, HAK.out, HN.out]; omega)
      generalize tl s (G.take k) = a at *
      generalize hdr : G.drop (k + 1) = b at *
      have HDR := Lib.hid hdr
      clear hdr
      generalize G.getD k pc0 = p at *
      obtain ⟨g, cap, hv, hbg, hgw, _, hncap, hat⟩ := own_at HAK.out hown
      simp only [Value.slice.injEq, true_and] at hv
      obtain ⟨rfl, rfl⟩ := hv
      have ix1 := pc_ixN g n k c0 hlt (k : Int) rfl
      have IX := Lib.hid ix1
      obtain ⟨c0', c1, c2, c3⟩ := pc_cells hat
      have HGG := Lib.hid (show base ≤ g ∧ g < wr.heap.size ∧ gB < base from ⟨hbg, hgw, HGB.out⟩)
      have A2 : Hid (AddSt wr gB base (.slice (some ⟨g, 0, none⟩) n c0) (a ++ p :: b) p (wr.alloc (.cells (KPc.cs p).toArray 44))) := Lib.hid
        ⟨(((Below.refl wr.heap.size wr).alloc (Nat.le_refl _) _).block _ (Array.getElem?_eq_some_iff.1 hgat).1).trans hgat, by rw [HLN.out]; exact own_below hown ((Below.refl wr.heap.size wr).alloc (Nat.le_refl _) _), heap_alloc_new wr _, KeepG.below ((Below.refl wr.heap.size wr).alloc (Nat.le_refl _) _) (Nat.le_of_lt (Array.getElem?_eq_some_iff.1 hgat).1) hbase, by rw [World.size_alloc]; omega⟩
      obtain ⟨cp, fr, ln, lit⟩ := p
      dsimp only at c0' c1 c2 c3 hgx
      have A2 : Hid (AddSt wr gB base (.slice (some ⟨g, 0, none⟩) n c0) (a ++ ⟨cp, fr, ln, lit⟩ :: b) ⟨cp, fr, ln, lit⟩ (wr.alloc (.cells #[.bool cp, .int .i64 fr, .int .i64 ln, .string lit] 44))) := A2
      have HB5 : Hid (∀ W : World, W.heap[wr.heap.size]? = some (.cells (KPc.cs ⟨cp, fr, ln, lit⟩).toArray 44) → wr.heap.size < W.heap.size) := Lib.hid (fun W h => (Array.getElem?_eq_some_iff.1 h).1)
      clear hgat hown hkw hbase hat hbg hgw hkG
      cases cp
      · obtain ⟨e1, e2, e3⟩ := hgx rfl
        obtain ⟨f, rfl⟩ : ∃ f : Nat, fr = f := ⟨fr.toNat, by omega⟩
        obtain ⟨m, rfl⟩ : ∃ m : Nat, ln = m := ⟨ln.toNat, by omega⟩
        have FW : Hid (IntKind.i64.wrap ((f : Int) + (m : Int)) = (f : Int) + (m : Int)) := Lib.hid (IntWalk.i64_in _ (by omega))
        have SLC := Lib.hid (sub_str s f (f + m) (by omega) (by omega) (f : Int) ((f : Int) + (m : Int)) rfl (by omega))
        have HCL := Lib.hid (fun X => clone_any (s.extract f (f + m)) X (by rw [extract_size _ _ _ (by omega)]; omega))
        rw [tlp_text rfl] at HST
        dsimp only at HST
        rw [show ((f : Int) + (m : Int)).toNat = f + m by omega, Int.toNat_natCast] at HST
        generalize s.extract f (f + m) = tt at *
        clear hgx e1 e2 e3
        go_wp2_with fail
        have P1 := Lib.hid (show (wr.alloc (.cells #[.bool false, .int .i64 (f : Int), .int .i64 (m : Int), .string lit] 44)).cell? ⟨wr.heap.size, 1, none⟩ = some (.int .i64 (f : Int)) by rw [cell_of_row _ _ _ _ _ _ A2.out.pb]; rfl)
        have P2 := Lib.hid (show (wr.alloc (.cells #[.bool false, .int .i64 (f : Int), .int .i64 (m : Int), .string lit] 44)).cell? ⟨wr.heap.size, 2, none⟩ = some (.int .i64 (m : Int)) by rw [cell_of_row _ _ _ _ _ _ A2.out.pb]; rfl)
        have GC0 := Lib.hid (show (wr.alloc (.cells #[.bool false, .int .i64 (f : Int), .int .i64 (m : Int), .string lit] 44)).cell? ⟨gB, 0, none⟩ = some (.slice (some ⟨g, 0, none⟩) n c0) by rw [cell_of_row _ _ _ _ _ _ A2.out.gat]; rfl)
        generalize wr.alloc (.cells #[.bool false, .int .i64 (f : Int), .int .i64 (m : Int), .string lit] 44) = w2 at *
        clear c0' c1 c2 c3 ix1
        refine wp_region_held_drew (S := fun w' => w'.heap[gB]? = w2.heap[gB]? ∧ w'.heap[wr.heap.size]? = w2.heap[wr.heap.size]?) (by kernel_rfl) ⟨rfl, rfl⟩ (fun hS => ?_)
        have A3 := Lib.hid (A2.out.drew)
        generalize World.drew _ = w3 at *
        refine wpAnyH_take (i := 0) (oi := ⟨some 20, _, _, _, _, _⟩) (v := ?_) rfl (by kernel_rfl) (by kernel_rfl) (by kernel_rfl) (fun _ _ _ h => h) (Or.inl ⟨by rfl, ?_⟩) hS ?_; rotate_left; (focus (intro w9 hSw; (try dsimp only at hSw); go_simp; try with_reducible rfl)); simp only [Act.put, List.setIfInBounds_toArray, List.set_cons_zero, List.set_cons_succ]
        refine wpAnyH_take (i := 1) (oi := ⟨some 21, _, _, _, _, _⟩) (v := ?_) rfl (by kernel_rfl) (by kernel_rfl) (by kernel_rfl) (fun _ _ _ h => h) (Or.inl ⟨by rfl, ?_⟩) hS ?_; rotate_left; (focus (intro w9 hSw; (try dsimp only at hSw); go_simp; try with_reducible rfl)); simp only [Act.put, List.setIfInBounds_toArray, List.set_cons_zero, List.set_cons_succ]
        refine wpAnyH_take (i := 2) (oi := ⟨some 22, _, _, _, _, _⟩) (v := ?_) rfl (by kernel_rfl) (by kernel_rfl) (by kernel_rfl) (fun _ _ _ h => h) (Or.inl ⟨by rfl, ?_⟩) hS ?_; rotate_left; (focus (intro w9 hSw; (try dsimp only at hSw); go_simp; try with_reducible rfl)); simp only [Act.put, List.setIfInBounds_toArray, List.set_cons_zero, List.set_cons_succ]
        refine wpAnyH_take (i := 3) (oi := ⟨some 23, _, _, _, _, _⟩) (v := ?_) rfl (by kernel_rfl) (by kernel_rfl) (by kernel_rfl) (fun _ _ _ h => h) (Or.inl ⟨by rfl, ?_⟩) hS ?_; rotate_left; (focus (intro w9 hSw; (try dsimp only at hSw); have q0 := (World.cell?_of_block hSw.1).trans GC0.out; go_simp; try with_reducible rfl)); simp only [Act.put, List.setIfInBounds_toArray, List.set_cons_zero, List.set_cons_succ]
        refine wpAnyH_take (i := 4) (oi := ⟨some 24, _, _, _, _, _⟩) (v := ?_) rfl (by kernel_rfl) (by kernel_rfl) (by kernel_rfl) (fun _ _ _ h => h) (Or.inl ⟨by rfl, ?_⟩) hS ?_; rotate_left; (focus (intro w9 hSw; (try dsimp only at hSw); go_simp; try with_reducible rfl)); simp only [Act.put, List.setIfInBounds_toArray, List.set_cons_zero, List.set_cons_succ]
        refine wpAnyH_take (i := 5) (oi := ⟨some 25, _, _, _, _, _⟩) (v := ?_) rfl (by kernel_rfl) (by kernel_rfl) (by kernel_rfl) (fun _ _ _ h => h) (Or.inl ⟨by rfl, ?_⟩) hS ?_; rotate_left; (focus (intro w9 hSw; (try dsimp only at hSw); go_simp; try with_reducible rfl)); simp only [Act.put, List.setIfInBounds_toArray, List.set_cons_zero, List.set_cons_succ]
        refine wpAnyH_take (i := 6) (oi := ⟨some 26, _, _, _, _, _⟩) (v := ?_) rfl (by kernel_rfl) (by kernel_rfl) (by kernel_rfl) (fun _ _ _ h => h) (Or.inl ⟨by rfl, ?_⟩) hS ?_; rotate_left; (focus (intro w9 hSw; (try dsimp only at hSw); go_simp; try with_reducible rfl)); simp only [Act.put, List.setIfInBounds_toArray, List.set_cons_zero, List.set_cons_succ]
        refine wpAnyH_take (i := 7) (oi := ⟨some 27, _, _, _, _, _⟩) (v := ?_) rfl (by kernel_rfl) (by kernel_rfl) (by kernel_rfl) (fun _ _ _ h => h) (Or.inl ⟨by rfl, ?_⟩) hS ?_; rotate_left; (focus (intro w9 hSw; (try dsimp only at hSw); have q0 := (World.cell?_of_block hSw.2).trans P1.out; go_simp; try with_reducible rfl)); simp only [Act.put, List.setIfInBounds_toArray, List.set_cons_zero, List.set_cons_succ]
        refine wpAnyH_take (i := 8) (oi := ⟨some 28, _, _, _, _, _⟩) (v := ?_) rfl (by kernel_rfl) (by kernel_rfl) (by kernel_rfl) (fun _ _ _ h => h) (Or.inl ⟨by rfl, ?_⟩) hS ?_; rotate_left; (focus (intro w9 hSw; (try dsimp only at hSw); go_simp; try with_reducible rfl)); simp only [Act.put, List.setIfInBounds_toArray, List.set_cons_zero, List.set_cons_succ]
        refine wpAnyH_take (i := 9) (oi := ⟨some 29, _, _, _, _, _⟩) (v := ?_) rfl (by kernel_rfl) (by kernel_rfl) (by kernel_rfl) (fun _ _ _ h => h) (Or.inl ⟨by rfl, ?_⟩) hS ?_; rotate_left; (focus (intro w9 hSw; (try dsimp only at hSw); have q0 := (World.cell?_of_block hSw.2).trans P1.out; go_simp; try with_reducible rfl)); simp only [Act.put, List.setIfInBounds_toArray, List.set_cons_zero, List.set_cons_succ]
        refine wpAnyH_take (i := 10) (oi := ⟨some 30, _, _, _, _, _⟩) (v := ?_) rfl (by kernel_rfl) (by kernel_rfl) (by kernel_rfl) (fun _ _ _ h => h) (Or.inl ⟨by rfl, ?_⟩) hS ?_; rotate_left; (focus (intro w9 hSw; (try dsimp only at hSw); go_simp; try with_reducible rfl)); simp only [Act.put, List.setIfInBounds_toArray, List.set_cons_zero, List.set_cons_succ]
        refine wpAnyH_take (i := 11) (oi := ⟨some 31, _, _, _, _, _⟩) (v := ?_) rfl (by kernel_rfl) (by kernel_rfl) (by kernel_rfl) (fun _ _ _ h => h) (Or.inl ⟨by rfl, ?_⟩) hS ?_; rotate_left; (focus (intro w9 hSw; (try dsimp only at hSw); have q0 := (World.cell?_of_block hSw.2).trans P2.out; go_simp; try with_reducible rfl)); simp only [Act.put, List.setIfInBounds_toArray, List.set_cons_zero, List.set_cons_succ]
        refine wpAnyH_take (i := 12) (oi := ⟨some 32, _, _, _, _, _⟩) (v := ?_) rfl (by kernel_rfl) (by kernel_rfl) (by kernel_rfl) (fun _ _ _ h => h) (Or.inl ⟨by rfl, ?_⟩) hS ?_; rotate_left; (focus (intro w9 hSw; (try dsimp only at hSw); have q0 := FW.out; go_simp; try with_reducible rfl)); simp only [Act.put, List.setIfInBounds_toArray, List.set_cons_zero, List.set_cons_succ]
        refine wpAnyH_take (i := 13) (oi := ⟨some 33, _, _, _, _, _⟩) (v := ?_) rfl (by kernel_rfl) (by kernel_rfl) (by kernel_rfl) (fun _ _ _ h => h) (Or.inl ⟨by rfl, ?_⟩) hS ?_; rotate_left; (focus (intro w9 hSw; (try dsimp only at hSw); have q0 := SLC.out w9; go_simp; try with_reducible rfl)); simp only [Act.put, List.setIfInBounds_toArray, List.set_cons_zero, List.set_cons_succ]
        refine wpAnyH_ready (rs := [14]) (by kernel_rfl) (by simp) (AllReadyH.cons (o := ⟨some 34, _, _, _, _, _⟩) rfl (fun K hK => ?_) AllReadyH.nil)
        go_simp
        refine (HCL.out w3).mono ?_
        rintro e w4 ⟨rfl, hb4⟩
        have A4 := Lib.hid (A3.out.below hb4)
        have hS4 := And.intro (A4.out.gat.trans A2.out.gat.symm) (A4.out.pb.trans A2.out.pb.symm)
        clear hb4
        refine hK.out _ _ hS4 (fun hS => ?_)
        clear hK K hS4
        try simp only [Act.put, List.setIfInBounds_toArray, List.set_cons_zero, List.set_cons_succ]
        refine wpAnyH_take (i := 15) (oi := ⟨some 35, _, _, _, _, _⟩) (v := (KPc.v ⟨false, 0, 0, tt⟩)) rfl (by kernel_rfl) (by kernel_rfl) (by kernel_rfl) (fun _ _ _ h => h) (Or.inl ⟨by rfl, ?_⟩) hS ?_; (focus (intro w9 hSw; (try dsimp only at hSw); refine exec_build_at 44 _ rfl #[(3, .string tt)] ?_ (build_txt11 tt w9); simp only [List.map_toArray, List.map_cons, List.map_nil]; rfl)); simp only [Act.put, List.setIfInBounds_toArray, List.set_cons_zero, List.set_cons_succ]
        refine wpAnyH_take (i := 16) (oi := ⟨some 36, _, _, _, _, _⟩) (v := (.pointer (some ⟨g, k * 4, none⟩))) rfl (by kernel_rfl) (by kernel_rfl) (by kernel_rfl) (fun _ _ _ h => h) (Or.inl ⟨by rfl, ?_⟩) hS ?_; (focus (intro w9 hSw; (try dsimp only at hSw); have q0 := IX.out w9; go_simp; try rfl)); simp only [Act.put, List.setIfInBounds_toArray, List.set_cons_zero, List.set_cons_succ]
        refine wpAnyH_ready (rs := [17]) (by kernel_rfl) (by simp) (AllReadyH.cons (o := ⟨none, _, _, _, _, _⟩) rfl (fun K hK => ?_) AllReadyH.nil)
        obtain ⟨w5, hst, ho5, hg5⟩ := own_put_at (q := ⟨false, 0, 0, tt⟩) HAK.out (by have h := A4.out.own; rw [HLN.out] at h; exact h)
        have O5 := Lib.hid ho5
        have G5 := Lib.hid (A4.out.grow ho5 (by exact hg5) (fun g' e => by have h9 : g = g' := by simpa [Value.ownBlock] using e
                                                                           rw [← h9]; exact HGG.out))
        clear ho5 hg5
        refine step_store_to (o := ⟨none, _, _, _, _, _⟩) rfl 44 (.tmp 36) (.tmp 35) rfl ⟨g, k * 4, none⟩ _ rfl rfl hst ?_
        refine hK.out _ _ ⟨G5.out.1.trans A2.out.gat.symm, G5.out.2.1.trans A2.out.pb.symm⟩ (fun hS => ?_)
        clear hK K hst hS
        try simp only [Act.put]
        refine wpAnyH_done (by kernel_rfl) ?_ _
        go_wp2
        go_roundw
        case rel => exact ⟨k + 1, by omega, by go_num, G5.out.1, by rw [HDR.out, HST.out]; exact O5.out, HKW.out.trans G5.out.2.2, Nat.le_trans HBS.out (Nat.le_of_lt (HB5.out w5 G5.out.2.1))⟩
        case measure => simp [intOf]; omega
      · rw [tlp_copy rfl] at HST
        have A9 := A2.out.own
        rw [HLN.out] at A9
        have FIN := Lib.hid (And.intro A2.out.gat (And.intro A9 (And.intro (HKW.out.trans A2.out.keep) A2.out.base)))
        clear A9 hgx
        go_wp2
        go_roundw
        case rel => exact ⟨k + 1, by omega, by go_num, FIN.out.1, by rw [HDR.out, HST.out]; exact FIN.out.2.1, FIN.out.2.2.1, FIN.out.2.2.2⟩
        case measure => simp [intOf]; omega
    · obtain rfl : k = n := by omega
      have t2 : ¬ (k : Int) < (k : Int) := by omega
      rw [HLE.out] at hown
      have d0 : wr.cell? ⟨gB, 0, none⟩ = some (.slice A k c0) := by rw [cell_of_row _ _ _ _ _ _ hgat]; rfl
      have FIN := Lib.hid (HV.out _ _ hown hkw)
      clear hgat hown hkw hbase
      go_wp2
      first | exact FIN.out | (go_ret; exact FIN.out) | (refine bodyPost_ret (v := .slice A k c0) (by simp [results, Tryd.results31]) rfl FIN.out)
end Go.Proofs.YtnencoainacpoaaDoor

end
