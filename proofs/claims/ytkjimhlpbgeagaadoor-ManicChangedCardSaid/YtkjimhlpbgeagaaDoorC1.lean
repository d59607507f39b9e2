import Derived.Test.YtkjimhlpbgeagaaDoorC0
import Derived.WalkKit
import Derived.Laws.BitsAllLaws
import Derived.Laws.BytesArg
import Derived.Deep.OwnRows
import Derived.Deep.Draws
import Derived.Lib.Hide
import Derived.Deep.RegionHeld3
import Derived.Laws.AppendOwnNone
import Derived.OpenShut
import Derived.Lib.AppendStr
import Derived.Test.YtkjimhlpbgeagaaDoorProg
import Derived.WalkMore
import Derived.Laws.Cover1
/-
  What the functions that a law of this layer reaches answer, part 1. Nothing that was there is written.
-/
namespace Go.Proofs.YtkjimhlpbgeagaaDoor
set_option linter.unusedVariables false
set_option linter.unusedSimpArgs false
section
section
namespace WM
def encH : Nat → Int → List Int
 | 0, _ => []
 | f + 1, m => if m = 0 then [] else encH f (m / 128) ++ [m % 128 + 128]
def enc (n : Int) : List Int := encH 9 (n / 128) ++ [n % 128]
def decR : Nat → Bool → Int → List Int → Option (Int × Nat)
 | 0, _, _, _ => none
 | _ + 1, _, _, [] => none
 | r + 1, first, acc, b :: t =>
  if (first && b == 128) = true then none else if 144115188075855871 < acc then none else
  if b < 128 then some (acc * 128 + b % 128, 1) else (decR r false (acc * 128 + b % 128) t).map fun p => (p.1, p.2 + 1)
def dec (zs : List Int) : Option (Int × Nat) := decR 10 true 0 zs
def AllBytes (zs : List Int) : Prop := ∀ z ∈ zs, 0 ≤ z ∧ z ≤ 255
theorem encH_zero (f : Nat) : encH f 0 = [] := by cases f <;> simp [encH]
theorem encH_len : ∀ (f : Nat) (m : Int), (encH f m).length ≤ f
 | 0, m => by simp [encH]
 | f + 1, m => by
  unfold encH
  have := encH_len f (m / 128)
  split <;> simp <;> omega
theorem encH_bytes : ∀ (f : Nat) (m : Int), ∀ z ∈ encH f m, 128 ≤ z ∧ z ≤ 255
 | 0, m => by simp [encH]
 | f + 1, m => by
  intro z hz
  unfold encH at hz
  split at hz
  ·simp at hz
  ·rcases List.mem_append.1 hz with h | h
   ·exact encH_bytes f _ z h
   ·simp at h; omega
theorem enc_bytes (n : Int) : AllBytes (enc n) := by
 intro z hz
 rcases List.mem_append.1 hz with h | h
 ·have := encH_bytes 9 _ z h; omega
 ·simp at h; omega
theorem enc_len (n : Int) : 1 ≤ (enc n).length ∧ (enc n).length ≤ 10 := by
 have := encH_len 9 (n / 128)
 unfold enc; simp; omega
theorem encH_more : ∀ (f g : Nat) (m : Int), 0 ≤ m → m < 128 ^ f → f ≤ g → encH g m = encH f m
 | 0, g, m, h0, h, _ => by
  have : m = 0 := by simp at h; omega
  subst this; simp [encH_zero]
 | f + 1, 0, m, _, _, h => by omega
 | f + 1, g + 1, m, h0, h, hg => by
  unfold encH
  split
  ·rfl
  ·rw [encH_more f g (m / 128) (by omega) (by rw [Int.pow_succ] at h; omega) (by omega)]
theorem decR_encH : ∀ (f : Nat) (m : Int) (r : Nat) (first : Bool) (t : List Int), 0 ≤ m → m < 128 ^ f → m ≤ 18446744073709551615 →
  decR (r + (encH f m).length) first 0 (encH f m ++ t) = (decR r (first && m == 0) m t).map fun p => (p.1, p.2 + (encH f m).length)
 | 0, m, r, first, t, h0, h, _ => by
  have : m = 0 := by simp at h; omega
  subst this; simp [encH]
 | f + 1, m, r, first, t, h0, h, hm => by
  by_cases hz : m = 0
  ·subst hz; simp [encH]
  ·have hs : encH (f + 1) m = encH f (m / 128) ++ [m % 128 + 128] := by rw [encH, if_neg hz]
   rw [hs]
   have ih := decR_encH f (m / 128) (r + 1) first ((m % 128 + 128) :: t) (by omega) (by rw [Int.pow_succ] at h; omega) (by omega)
   rw [List.length_append, List.append_assoc, show r + ((encH f (m / 128)).length + [m % 128 + 128].length) = r + 1 + (encH f (m / 128)).length by simp; omega, List.singleton_append, ih]
   have e1 : (first && m / 128 == 0 && m % 128 + 128 == 128) = false := by
    cases first
    ·rfl
    ·simp; omega
   have e2 : ¬ (144115188075855871 < m / 128) := by omega
   have e3 : ¬ (m % 128 + 128 < 128) := by omega
   have e4 : m / 128 * 128 + (m % 128 + 128) % 128 = m := by omega
   have e5 : (m == 0) = false := by simp [hz]
   conv => lhs; rw [decR]
   rw [if_neg (by simp [e1]), if_neg e2, if_neg e3, e4, e5]
   simp only [Bool.and_false, Option.map_map]
   congr 1
   funext p
   simp
   omega
theorem dec_enc (n : Int) (t : List Int) (h0 : 0 ≤ n) (h : n ≤ 18446744073709551615) : dec (enc n ++ t) = some (n, (enc n).length) := by
 have hl := encH_len 9 (n / 128)
 have k := decR_encH 9 (n / 128) (10 - (encH 9 (n / 128)).length) true ((n % 128) :: t) (by omega) (by omega) (by omega)
 unfold dec enc
 rw [List.append_assoc, List.singleton_append]
 rw [show 10 - (encH 9 (n / 128)).length + (encH 9 (n / 128)).length = 10 by omega] at k
 rw [k]
 obtain ⟨r, hr⟩ : ∃ r, 10 - (encH 9 (n / 128)).length = r + 1 := ⟨9 - (encH 9 (n / 128)).length, by omega⟩
 rw [hr, decR, if_neg (by simp; omega), if_neg (by omega), if_pos (by omega)]
 simp
 omega
theorem decR_some : ∀ (r : Nat) (first : Bool) (acc : Int) (t : List Int) (j : Nat) (n : Int) (k : Nat), j + r = 10 → 0 ≤ acc → acc < 128 ^ j → (first = false → acc ≠ 0) → (first = true → acc = 0) → AllBytes t →
  decR r first acc t = some (n, k) → 1 ≤ k ∧ k ≤ t.length ∧ enc n = encH j acc ++ t.take k ∧ 0 ≤ n ∧ n ≤ 18446744073709551615
 | 0, first, acc, t, j, n, k, _, _, _, _, _, _, h => by simp [decR] at h
 | r + 1, first, acc, [], j, n, k, _, _, _, _, _, _, h => by simp [decR] at h
 | r + 1, first, acc, b :: t, j, n, k, hj, h0, hlt, hf, hft, hb, h => by
  have hbb := hb b (by simp)
  rw [decR] at h
  split at h
  ·cases h
  ·rename_i hn1
   split at h
   ·cases h
   ·rename_i hn2
    split at h
    ·rename_i hn3
     simp only [Option.some.injEq, Prod.mk.injEq] at h
     obtain ⟨rfl, rfl⟩ := h
     refine ⟨by omega, by simp, ?_, by omega, by omega⟩
     unfold enc
     rw [show (acc * 128 + b % 128) / 128 = acc by omega, show (acc * 128 + b % 128) % 128 = b by omega, encH_more j 9 acc h0 hlt (by omega)]
     simp
    ·rename_i hn3
     rw [Option.map_eq_some_iff] at h
     obtain ⟨⟨n1, k1⟩, hd, he⟩ := h
     simp only [Prod.mk.injEq] at he
     obtain ⟨rfl, rfl⟩ := he
     have hne : acc * 128 + b % 128 ≠ 0 := by
      cases first
      ·have := hf rfl; omega
      ·have := hft rfl
       simp at hn1
       omega
     have ih := decR_some r false (acc * 128 + b % 128) t (j + 1) n1 k1 (by omega) (by omega) (by rw [Int.pow_succ]; omega) (fun _ => hne) (fun h => by cases h) (fun z hz => hb z (by simp [hz])) hd
     obtain ⟨i1, i2, i3, i4, i5⟩ := ih
     refine ⟨by omega, by simp; omega, ?_, i4, i5⟩
     rw [i3, encH, if_neg hne, show (acc * 128 + b % 128) / 128 = acc by omega, show (acc * 128 + b % 128) % 128 + 128 = b by omega]
     simp
theorem dec_some {zs : List Int} {n : Int} {k : Nat} (hb : AllBytes zs) (h : dec zs = some (n, k)) : 1 ≤ k ∧ k ≤ zs.length ∧ enc n = zs.take k ∧ 0 ≤ n ∧ n ≤ 18446744073709551615 := by
 have := decR_some 10 true 0 zs 0 n k rfl (by omega) (by simp) (fun h => by cases h) (fun _ => rfl) hb h
 simpa [encH] using this
end WM
end
section
open Go.RowKit WM
theorem or_seven (a y : Int) (h0 : 0 ≤ a) (h1 : a ≤ 144115188075855871) (h2 : 0 ≤ y) (h3 : y < 128) : bits .or .u64 (a * 128) y = a * 128 + y := by
 rw [u64_or _ _ (by omega) (by omega) h2 (by omega)]
 have := Nat.two_pow_add_eq_or_of_lt (i := 7) (b := y.toNat) (by omega) a.toNat
 rw [show (a * 128).toNat = 2 ^ 7 * a.toNat by omega, ← this]
 omega
theorem or_eight (a y : Int) (h0 : 0 ≤ a) (h1 : a ≤ 16777215) (h2 : 0 ≤ y) (h3 : y < 256) : bits .or .u32 (a * 256) y = a * 256 + y := by
 rw [u32_or _ _ (by omega) (by omega) h2 (by omega)]
 have := Nat.two_pow_add_eq_or_of_lt (i := 8) (b := y.toNat) (by omega) a.toNat
 rw [show (a * 256).toNat = 2 ^ 8 * a.toNat by omega, ← this]
 omega
theorem low_seven (z : Int) (h0 : 0 ≤ z) (h1 : z ≤ 255) : bits .andNot .u8 z 128 = z % 128 := by
 rw [u8_andNot _ _ h0 (by omega) (by omega) (by omega)]
 have := Nat.and_two_pow_sub_one_eq_mod z.toNat 7
 simp only [show (255 - Int.toNat 128) = 2 ^ 7 - 1 by decide, this]
 omega
theorem top_set (z : Int) (h0 : 0 ≤ z) (h1 : z ≤ 255) : bits .or .u8 z 128 = z % 128 + 128 := by
 by_cases h : z < 128
 ·have := Nat.two_pow_add_eq_or_of_lt (i := 7) (b := z.toNat) (by omega) 1
  rw [u8_or _ _ h0 (by omega) (by omega) (by omega), Nat.or_comm, show Int.toNat 128 = 2 ^ 7 * 1 by decide, ← this]
  omega
 ·have := Nat.two_pow_add_eq_or_of_lt (i := 7) (b := z.toNat - 128) (by omega) 1
  rw [u8_or _ _ h0 (by omega) (by omega) (by omega), Nat.or_comm, show Int.toNat 128 = 2 ^ 7 * 1 by decide]
  rw [show z.toNat = 2 ^ 7 * 1 + (z.toNat - 128) by omega, this, ← Nat.or_assoc, Nat.or_self, ← this]
  omega
theorem wpAnyH_sub {P : Program} {ops : Array Oper} {Q : Exit → Act → World → Prop} {md : Region.Mode} {S S' : World → Prop} (hs : ∀ w, S' w → S w) :
  ∀ {fuel : Nat} {listed : Array Bool} {a : Act} {w : World}, wpAnyH P md ops Q S' fuel listed a w → wpAnyH P md ops Q S fuel listed a w
 | 0, _, _, _, h => h
 | _ + 1, _, _, _, h => ⟨h.1, fun i hi => wpOp_mono (fun _ w' h' => ⟨hs w' h'.1, wpAnyH_sub hs h'.2⟩) (h.2 i hi)⟩
def Byt (w : World) (B : Nat) (A : Option Addr) (zs : List Int) : Prop :=
 zs ≠ [] → ∃ b off, A = some ⟨b, off, none⟩ ∧ b < B ∧ ∀ i, i < zs.length → w.cell? ⟨b, off + i, none⟩ = some (.int .u8 (zs.getD i 0))
variable {w w' : World} {B B' : Nat} {A : Option Addr} {zs : List Int}
theorem Byt.nil : Byt w B A [] := fun h => absurd rfl h
theorem Byt.move (h : Byt w B A zs) (hk : ∀ p : Addr, p.block < B → w'.cell? p = w.cell? p) : Byt w' B A zs := fun hn => by
 obtain ⟨b, off, e, hb, hc⟩ := h hn
 exact ⟨b, off, e, hb, fun i hi => (hk _ hb).trans (hc i hi)⟩
theorem Byt.wide (h : Byt w B A zs) (hB : B ≤ B') : Byt w B' A zs := fun hn => by
 obtain ⟨b, off, e, hb, hc⟩ := h hn
 exact ⟨b, off, e, by omega, hc⟩
theorem Byt.below (h : Byt w B A zs) (hb : Below B w w') : Byt w' B A zs := h.move fun _ hp => hb.cell hp
theorem Byt.take (h : Byt w B A zs) (k : Nat) : Byt w B A (zs.take k) := fun hn => by
 obtain ⟨b, off, e, hb, hc⟩ := h (fun e => hn (by simp [e]))
 refine ⟨b, off, e, hb, fun i hi => ?_⟩
 have hi' : i < k ∧ i < zs.length := by simpa [List.length_take, Nat.lt_min] using hi
 rw [hc i hi'.2]
 simp [List.getD, hi'.1]
theorem Byt.drop (h : Byt w B A zs) {k cap : Nat} (hc : zs.length ≤ cap) :
  Byt w B (if cap = k then A else A.map (·.add k)) (zs.drop k) := fun hn => by
 have hlt : k < zs.length := by
  rcases Nat.lt_or_ge k zs.length with h1 | h1
  ·exact h1
  ·exact absurd (List.drop_eq_nil_of_le h1) hn
 obtain ⟨b, off, rfl, hb, hcell⟩ := h (fun e => by simp [e] at hlt)
 rw [if_neg (by omega)]
 refine ⟨b, off + k, by simp [Addr.add], hb, fun i hi => ?_⟩
 have hi' : k + i < zs.length := by simp at hi; omega
 rw [Nat.add_assoc, hcell (k + i) hi']
 simp [List.getD, List.getElem?_drop]
theorem Byt.own {base : Nat} {e : TypeId} {n c : Nat} (h : w.ownsRow base e 1 (.slice A n c) n (zs.map (Value.int .u8))) : Byt w w.heap.size A zs := fun hn => by
 have hl : zs.length = n := by simpa using h.1
 have h0 : 0 < n := by
  rw [← hl]
  exact List.length_pos_iff.2 hn
 rcases h.2 with ⟨_, h1⟩ | ⟨g, cap, cur, hv, _, hh, hnc, _, hsz, htk⟩
 ·omega
 have hA : A = some ⟨g, 0, none⟩ := by injection hv
 subst hA
 have hlt : g < w.heap.size := by
  rcases Nat.lt_or_ge g w.heap.size with h1 | h1
  ·exact h1
  ·rw [Array.getElem?_eq_none h1] at hh; cases hh
 refine ⟨g, 0, rfl, hlt, fun i hi => ?_⟩
 rw [Nat.zero_add, cell_of_row w g i cur e (0, 0) hh]
 have h2 := congrArg (fun l => l[i]?) htk
 simp only [List.getElem?_take, Nat.mul_one, show i < n by omega, if_true, Array.getElem?_toList, List.getElem?_map, List.getElem?_eq_getElem hi, Option.map_some] at h2
 rw [h2]
 simp [List.getD, List.getElem?_eq_getElem hi]
theorem Byt.text {P : Program} (h : Byt w B A zs) {len cap : Nat} (hl : zs.length = len) (src e dst : TypeId) (hs : P.underlying src = some (.slice e)) (he : P.underlying e = some (.int .u8)) (hd : P.underlying dst = some .string) :
  (convert src dst (.slice A len cap)).run P w = .ok (.string (strOfNums zs)) w := by
 by_cases hn : zs = []
 ·subst hn
  simp at hl
  subst hl
  rw [run_convert_bytes_string w src dst e _ 0 cap hs he hd]
  cases A with
  | none => simp [Conv.bytesToString]; rfl
  | some a =>
   rw [run_bytesToString w a 0 cap [] (run_loadCells_list (P := P) w a [] (fun j v hj => by simp at hj))]
   rfl
 ·obtain ⟨b, off, rfl, _, hc⟩ := h hn
  exact run_convert_bytes_arg w src e hs he b off len cap zs hl (fun i hi => hc i (by omega)) dst hd
theorem wpList_append_byt {P : Program} (w : World) {ops : Array Oper} {rest : List Oper} {o : Oper} {a : Act} {Q : Exit → Act → World → Prop} (hgd : o.guard = none) (s x : Operand) (t : TypeId)
  (ho : o.op = .call { callee := .builtin .append, args := #[s, x], argTypes := #[t, t] })
  (base : Nat) (e : TypeId) (i : TypeInfo) (ht : P.underlying t = some (.slice e)) (hi : P.info? e = some i) (hz : i.zero = some (.int .u8 0)) (hsize : i.size = 1) (hby : i.bytes = 1)
  (v : Value) (n : Nat) (ys : List Int) (hs : a.eval s = v) (hown : w.ownsRow base e 1 v n (ys.map (Value.int .u8)))
  (B : Nat) (A : Option Addr) (m c : Nat) (zs : List Int) (hx : a.eval x = .slice A m c) (hr : Byt w B A zs) (hl : zs.length = m) (hnil : A = none → c = 0) (hlen : n + m ≤ 140737488355328) (hbase : base ≤ w.heap.size)
  (h : ∀ v' w', w'.ownsRow base e 1 v' (n + m) ((ys ++ zs).map (Value.int .u8)) → w.grownBy w' v.ownBlock → wpList P ops Q rest (a.put o.dst v') w') : wpList P ops Q (o :: rest) a w := by
 have fin : ∀ ad : Addr, A = some ad → (∀ j u, (zs.map (Value.int .u8))[j]? = some u → w.cell? (ad.add j) = some u) → wpList P ops Q (o :: rest) a w := by
  intro ad hA hc
  subst hA
  refine wpList_append_own w hgd s x t ho base e i (.int .u8 0) 1 1 ht hi hz hsize hby rfl (by omega) v n _ hs hown ad m c (zs.map (Value.int .u8)) hx (by simp [hl]) hc (by
   intro u hu
   obtain ⟨_, _, rfl⟩ := List.mem_map.1 hu
   rfl) (by simp only [maxLen]; omega) (by omega) hbase ?_
  intro v' w' h1 h2 _
  exact h v' w' (by rw [List.map_append]; exact h1) h2
 by_cases hn : zs = []
 ·subst hn
  cases A with
  | none =>
   have hc0 := hnil rfl
   simp at hl
   subst hl
   subst hc0
   refine wpList_append_own_none hgd s x t ho base e i 1 ht hi v n _ hs hown hx ?_
   exact h v w (by simpa using hown) (World.grownBy.refl w _)
  | some ad => exact fin ad rfl (fun j u hj => by simp at hj)
 ·obtain ⟨b, off, hA, _, hc⟩ := hr hn
  refine fin _ hA (fun j u hj => ?_)
  rw [List.getElem?_map, Option.map_eq_some_iff] at hj
  obtain ⟨z, hz1, rfl⟩ := hj
  have hjl := (List.getElem?_eq_some_iff.1 hz1).1
  rw [Addr.add_lit, hc j hjl]
  simp [List.getD, hz1]
theorem own_new (w : World) (base : Nat) (hb : base ≤ w.heap.size) (e : TypeId) (zs : List Int) (hl : zs.length ≤ maxLen) :
  (w.alloc (.cells (zs.map (Value.int .u8)).toArray e)).ownsRow base e 1 (.slice (some ⟨w.heap.size, 0, none⟩) zs.length zs.length) zs.length (zs.map (Value.int .u8)) := by
 refine ⟨by simp, .inr ⟨w.heap.size, zs.length, (zs.map (Value.int .u8)).toArray, rfl, hb, heap_alloc_new w _, Nat.le_refl _, hl, by simp, ?_⟩⟩
 rw [List.take_of_length_le (by simp)]
def IsRow (k : IntKind) (w : World) (a : Option Addr) (len cap : Nat) (zs : List Int) : Prop :=
 (a = none ∧ len = 0 ∧ cap = 0 ∧ zs = []) ∨
 ∃ x, a = some x ∧ len ≤ cap ∧ cap ≤ maxLen ∧ zs.length = cap ∧ (∀ i, i < zs.length → w.cell? (x.add i) = some (.int k (zs.getD i 0))) ∧ ∀ n ∈ zs, (Lit.int k n).wf = true
theorem IsRow.byt {len cap : Nat} (h : IsRow .u8 w A len cap zs) : Byt w w.heap.size A (zs.take len) ∧ (zs.take len).length = len ∧ AllBytes (zs.take len) ∧ len ≤ cap ∧ cap ≤ maxLen := by
 rcases h with ⟨rfl, rfl, rfl, rfl⟩ | ⟨x, rfl, hl, hm, hz, hcell, hwz⟩
 ·exact ⟨by rw [List.take_zero]; exact Byt.nil, by simp, fun z hz => by simp at hz, by omega, by decide⟩
 ·refine ⟨fun hn => ?_, by rw [List.length_take]; omega, fun z hz => ?_, hl, hm⟩
  ·have h0 : 0 < (zs.take len).length := List.length_pos_iff.2 hn
   have h1 : 0 < zs.length := by rw [List.length_take] at h0; omega
   obtain ⟨b, off, spot⟩ := x
   have hspot : spot = none := by simpa [Addr.add] using World.cell?_spot (hcell 0 h1)
   subst hspot
   have hlt : b < w.heap.size := by
    have := hcell 0 h1
    rcases Nat.lt_or_ge b w.heap.size with h2 | h2
    ·exact h2
    ·rw [Addr.add_lit, World.cell?] at this
     rw [Array.getElem?_eq_none h2] at this
     cases this
   refine ⟨b, off, rfl, hlt, fun i hi => ?_⟩
   have hi' : i < len ∧ i < zs.length := by simpa [List.length_take, Nat.lt_min] using hi
   have := hcell i hi'.2
   rw [Addr.add_lit] at this
   rw [this]
   simp [List.getD, hi'.1]
  ·exact bounds_u8 (hwz z (List.mem_of_mem_take hz))
theorem own_below {w w' : World} {base size n : Nat} {e : TypeId} {v : Value} {xs : List Value} (h : w.ownsRow base e size v n xs) (hb : Below w.heap.size w w') : w'.ownsRow base e size v n xs := by
 refine ⟨h.1, ?_⟩
 rcases h.2 with h1 | ⟨g, cap, cur, h1, h2, hh, h4⟩
 ·exact .inl h1
 ·refine .inr ⟨g, cap, cur, h1, h2, ?_, h4⟩
  have hlt : g < w.heap.size := by
   rcases Nat.lt_or_ge g w.heap.size with h3 | h3
   ·exact h3
   ·rw [Array.getElem?_eq_none h3] at hh; cases hh
  rw [hb.block g hlt]
  exact hh
theorem own_base {w : World} {base size n g : Nat} {e : TypeId} {v : Value} {xs : List Value} (h : w.ownsRow base e size v n xs) (hg : v.ownBlock = some g) : base ≤ g := by
 rcases h.2 with ⟨rfl, _⟩ | ⟨g', cap, cur, rfl, hb, _⟩
 ·simp [Value.ownBlock] at hg
 ·simp [Value.ownBlock] at hg; omega
theorem own_nil {w : World} {base n c : Nat} {e : TypeId} {A : Option Addr} {xs : List Value} (h : w.ownsRow base e 1 (.slice A n c) n xs) (hA : A = none) : c = 0 := by
 rcases h.2 with ⟨h1, _⟩ | ⟨g, cap, cur, h1, _⟩
 ·injection h1
 ·injection h1 with h1; rw [hA] at h1; cases h1
theorem strOfNums_inj {xs ys : List Int} (hx : AllBytes xs) (hy : AllBytes ys) : strOfNums xs = strOfNums ys ↔ xs = ys := by
 constructor
 ·intro h
  have h1 : xs.map (fun n => UInt8.ofNat n.toNat) = ys.map fun n => UInt8.ofNat n.toNat := by rw [← strOfNums_data, ← strOfNums_data, h]
  clear h
  induction xs generalizing ys with
  | nil => cases ys with
   | nil => rfl
   | cons y ys => simp at h1
  | cons x xs ih => cases ys with
   | nil => simp at h1
   | cons y ys =>
    simp only [List.map_cons, List.cons.injEq] at h1
    have h2 := congrArg UInt8.toNat h1.1
    simp only [UInt8.toNat_ofNat'] at h2
    have a := hx x (by simp)
    have b := hy y (by simp)
    rw [ih (fun z hz => hx z (by simp [hz])) (fun z hz => hy z (by simp [hz])) h1.2, show x = y by omega]
 ·rintro rfl; rfl
end
section
open Go.RowKit WM
theorem infoByte : (Tryd.prog.info? 5).map (fun i => (i.zero, i.size, i.bytes)) = some (some (.int .u8 0), 1, 1) := by kernel_rfl
theorem made4 : madeCells #[.int .u8 0] 4 = #[.int .u8 0, .int .u8 0, .int .u8 0, .int .u8 0] := by simp [madeCells, Array.range]; rfl
theorem make4 (w : World) : (Instr.makeSlice 27 (.int .i64 4) (.int .i64 4)).run Tryd.prog w = .ok (.slice (some ⟨w.heap.size, 0, none⟩) 4 4) (w.alloc (.cells #[.int .u8 0, .int .u8 0, .int .u8 0, .int .u8 0] 5)) :=
 (run_make_row' (P := Tryd.prog) 27 5 (.int .u8 0) 1 Tryd.underlying27 infoByte rfl .i64 .i64 4 (by decide) (by decide) w).trans (by rw [made4])
theorem one_cell {w : World} {o : Obj} {u : Value} {e : TypeId} (ho : o = .cells #[u] e) : ∀ j v, ([u] : List Value)[j]? = some v → (w.alloc o).cell? ((⟨w.heap.size, 0, none⟩ : Addr).add j) = some v := by
 subst ho
 intro j v hj
 match j, hj with
 | 0, hj =>
  simp at hj; subst hj
  have hh : (w.alloc (.cells #[u] e)).heap[w.heap.size]? = some (.cells #[u] e) := heap_alloc_new w _
  rw [Addr.add_lit, cell_of_row _ _ _ _ _ _ hh]
  rfl
theorem drop_at {zs : List Int} {k : Nat} (hk : k < zs.length) : zs.drop k = zs.getD k 0 :: zs.drop (k + 1) := by
 rw [List.drop_eq_getElem_cons hk]
 simp [List.getD, List.getElem?_eq_getElem hk]
theorem ret3 {a b c a' b' c' : Value} (h1 : a = a') (h2 : b = b') (h3 : c = c') : Ending.returned (.tuple #[a, b, c]) = .returned (.tuple #[a', b', c']) := by rw [h1, h2, h3]
def Gives (w : World) (zs : List Int) (e : Ending) (w' : World) : Prop :=
 ∃ A n c, e = .returned (.slice A n c) ∧ zs.length = n ∧ n ≤ c ∧ c ≤ maxLen ∧ w'.ownsRow w.heap.size 5 1 (.slice A n c) n (zs.map (Value.int .u8)) ∧ Below w.heap.size w w'
theorem gives_own {w w' : World} {v : Value} {n : Nat} {zs : List Int} (ho : w'.ownsRow w.heap.size 5 1 v n (zs.map (Value.int .u8))) (hb : Below w.heap.size w w') : Gives w zs (.returned v) w' := by
 have hl : zs.length = n := by simpa using ho.1
 rcases ho.2 with ⟨rfl, rfl⟩ | ⟨g, cap, cur, rfl, _, _, hnc, hcm, _⟩
 ·exact ⟨none, 0, 0, rfl, hl, by omega, by decide, ho, hb⟩
 ·exact ⟨_, n, cap, rfl, hl, hnc, hcm, ho, hb⟩
def GivesT (w : World) (zs : List Int) (e : Ending) (w' : World) : Prop :=
 ∃ A n c, e = .returned (.tuple #[.slice A n c, .bool true]) ∧ zs.length = n ∧ n ≤ c ∧ c ≤ maxLen ∧ w'.ownsRow w.heap.size 5 1 (.slice A n c) n (zs.map (Value.int .u8)) ∧ Below w.heap.size w w'
theorem givesT_own {w w' : World} {v : Value} {n : Nat} {zs : List Int} (ho : w'.ownsRow w.heap.size 5 1 v n (zs.map (Value.int .u8))) (hb : Below w.heap.size w w') : GivesT w zs (.returned (.tuple #[v, .bool true])) w' := by
 have hl : zs.length = n := by simpa using ho.1
 rcases ho.2 with ⟨rfl, rfl⟩ | ⟨g, cap, cur, rfl, _, _, hnc, hcm, _⟩
 ·exact ⟨none, 0, 0, rfl, hl, by omega, by decide, ho, hb⟩
 ·exact ⟨_, n, cap, rfl, hl, hnc, hcm, ho, hb⟩
def nums (s : ByteArray) : List Int := s.data.toList.map fun b => (b.toNat : Int)
theorem nums_len (s : ByteArray) : (nums s).length = s.size := by rw [nums, List.length_map, Array.length_toList]; rfl
theorem nums_cells (s : ByteArray) : (nums s).map (Value.int .u8) = Lib.strCells s := by simp [nums, Lib.strCells]
theorem nums_bytes (s : ByteArray) : AllBytes (nums s) := by
 intro z hz
 simp only [nums, List.mem_map] at hz
 obtain ⟨b, _, rfl⟩ := hz
 have := b.toNat_lt
 omega
def txt (s : ByteArray) : List Int := enc s.size ++ nums s
theorem txt_bytes (s : ByteArray) : AllBytes (txt s) := by
 intro z hz
 rcases List.mem_append.1 hz with h | h
 ·exact enc_bytes _ z h
 ·exact nums_bytes _ z h
theorem all_append {xs ys : List Int} (h1 : AllBytes xs) (h2 : AllBytes ys) : AllBytes (xs ++ ys) := fun z hz => by
 rcases List.mem_append.1 hz with h | h
 ·exact h1 z h
 ·exact h2 z h
theorem row_nil {k : IntKind} {w : World} {a : Option Addr} {len cap : Nat} {zs : List Int} (h : IsRow k w a len cap zs) (ha : a = none) : cap = 0 := by
 rcases h with ⟨_, _, h, _⟩ | ⟨x, h, _⟩
 ·exact h
 ·rw [h] at ha; cases ha
theorem all_get {zs : List Int} (hb : AllBytes zs) (j : Nat) : 0 ≤ zs.getD j 0 ∧ zs.getD j 0 ≤ 255 := by
 rcases Nat.lt_or_ge j zs.length with h1 | h1
 ·have := hb _ (List.getElem_mem h1)
  simpa [List.getD, List.getElem?_eq_getElem h1] using this
 ·simp [List.getD, List.getElem?_eq_none h1]
theorem all_take {zs : List Int} (hb : AllBytes zs) (j : Nat) : AllBytes (zs.take j) := fun z hz => hb z (List.mem_of_mem_take hz)
theorem all_drop {zs : List Int} (hb : AllBytes zs) (j : Nat) : AllBytes (zs.drop j) := fun z hz => hb z (List.mem_of_mem_drop hz)
theorem sizeByte (w : World) : (sizeOf 5).run Tryd.prog w = .ok 1 w := by
 simp [sizeOf, go_sem]
 rfl
theorem elemByte : Tryd.prog.elem 27 = 5 := by kernel_rfl
theorem sl_lh (b off len cap l h : Nat) (h1 : l ≤ h) (h2 : h ≤ cap) (h3 : l < cap) (L H : Int) (eL : L = l) (eH : H = h) (w : World) : (Instr.slice 27 (.slice (some ⟨b, off, none⟩) len cap) (some (.int .i64 L)) (some (.int .i64 H)) none).run Tryd.prog w = .ok (.slice (some ⟨b, off + l, none⟩) (h - l) (cap - l)) w := by
 subst eL eH
 rw [run_slice_lh w 27 _ len cap (by rw [elemByte]; exact Tryd.underlying27) .i64 .i64 l h (by omega) (by omega) (by omega), elemByte, sizeByte]
 simp [sliced, Result.andThen, Addr.add_lit]
 omega
theorem sl_h (A : Option Addr) (len cap h : Nat) (h2 : h ≤ cap) (H : Int) (eH : H = h) (w : World) : (Instr.slice 27 (.slice A len cap) none (some (.int .i64 H)) none).run Tryd.prog w = .ok (.slice A h cap) w := by
 subst eH
 rw [run_slice_h w 27 _ len cap (by rw [elemByte]; exact Tryd.underlying27) .i64 h (by omega) (by omega), elemByte, sizeByte]
 simp only [sliced, Result.andThen, Int.toNat_natCast, Nat.zero_mul, Nat.sub_zero]
 cases A with
 | none => simp
 | some a => obtain ⟨b, off, s⟩ := a; simp [Addr.add]
theorem sl_l (A : Option Addr) (len cap l : Nat) (h1 : l ≤ len) (L : Int) (eL : L = l) (w : World) : (Instr.slice 27 (.slice A len cap) (some (.int .i64 L)) none none).run Tryd.prog w = .ok (.slice (if cap = l then A else A.map (·.add l)) (len - l) (cap - l)) w := by
 subst eL
 rw [run_slice_l w 27 _ len cap (by rw [elemByte]; exact Tryd.underlying27) .i64 l (by omega) (by omega), elemByte, sizeByte]
 simp [sliced, Result.andThen]
theorem ix_at (b off len cap i : Nat) (h : i < len) (I : Int) (e : I = i) (w : World) : (Instr.indexAt 27 (.slice (some ⟨b, off, none⟩) len cap) (.int .i64 I)).run Tryd.prog w = .ok (.pointer (some ⟨b, off + i, none⟩)) w := by
 subst e
 rw [run_indexAt_slice w 27 _ len cap .i64 i (by rw [elemByte]; exact Tryd.underlying27), if_pos (by omega), elemByte, sizeByte]
 simp [Result.andThen, Addr.add_lit]
end
section
open Go.RowKit WM
def st (n r : Int) : Value := .agg #[.int .i64 n, .int .i64 r]
def mayR (r : Int) : Bool := decide (0 ≤ r ∧ r < 8)
def may (n r : Int) : Bool := decide ((n = 0 ∧ r = 0) ∨ 1 ≤ n ∧ n ≤ 1099511627776 ∧ 0 ≤ r ∧ r < 8)
theorem may_iff {n r : Int} : may n r = true ↔ (n = 0 ∧ r = 0) ∨ 1 ≤ n ∧ n ≤ 1099511627776 ∧ 0 ≤ r ∧ r < 8 := by rw [may, decide_eq_true_iff]
theorem mayRep_any (r : Int) (w : World) : Calls Tryd.prog 49 #[.int .i64 r] w fun e w' => e = .returned (.bool (mayR r)) ∧ w' = w := by
 by_cases h0 : 0 ≤ r
 ·go_enter Tryd.func49, Tryd.ntmps49
  go_wp2
  go_ret
  exact ⟨by simp [mayR, h0], rfl⟩
 ·go_enter Tryd.func49, Tryd.ntmps49
  go_wp2
  go_ret
  exact ⟨by rw [mayR, decide_eq_false (by omega)]; rfl, rfl⟩
set_option maxHeartbeats 1000000 in
theorem may_any (n r : Int) (w : World) : Calls Tryd.prog 31 #[st n r] w fun e w' => e = .returned (.bool (may n r)) ∧ Below w.heap.size w w' := by
 unfold st
 have hbel := Lib.hid (fun (o : Obj) => (Below.refl w.heap.size w).alloc (Nat.le_refl _) o)
 by_cases h0 : n = 0
 ·subst h0
  by_cases h1 : r = 0
  ·subst h1
   go_enter Tryd.func31, Tryd.ntmps31
   go_wp2
   go_ret
   exact ⟨rfl, hbel.out _⟩
  ·have hm := Lib.hid (show may 0 r = false by rw [may, decide_eq_false_iff_not]; omega)
   go_enter Tryd.func31, Tryd.ntmps31
   go_wp2
   go_ret
   exact ⟨by rw [hm.out]; rfl, hbel.out _⟩
 ·by_cases h1 : 1 ≤ n
  ·by_cases h2 : n ≤ 1099511627776
   ·have hm := Lib.hid (show mayR r = may n r by rw [mayR, may, decide_eq_decide]; omega)
    go_enter Tryd.func31, Tryd.ntmps31
    go_wp2_with fail
    refine (mayRep_any r _).mono ?_
    rintro e w1 ⟨rfl, rfl⟩
    go_wp2
    go_ret
    exact ⟨by rw [← hm.out]; rfl, hbel.out _⟩
   ·have hm := Lib.hid (show may n r = false by rw [may, decide_eq_false_iff_not]; omega)
    go_enter Tryd.func31, Tryd.ntmps31
    go_wp2
    go_ret
    exact ⟨by rw [hm.out]; rfl, hbel.out _⟩
  ·have hm := Lib.hid (show may n r = false by rw [may, decide_eq_false_iff_not]; omega)
   go_enter Tryd.func31, Tryd.ntmps31
   go_wp2
   go_ret
   exact ⟨by rw [hm.out]; rfl, hbel.out _⟩
def stLess (n r m s : Int) : Bool := decide (n < m ∨ n = m ∧ r < s)
set_option maxHeartbeats 1000000 in
theorem stLess_any (n r m s : Int) (w : World) : Calls Tryd.prog 33 #[st n r, st m s] w fun e w' => e = .returned (.bool (stLess n r m s)) ∧ Below w.heap.size w w' := by
 unfold st
 have hbel := Lib.hid (fun (o o' : Obj) => ((Below.refl w.heap.size w).alloc (Nat.le_refl _) o).alloc (by simp) o')
 by_cases h1 : n = m
 ·subst h1
  by_cases h0 : r = s
  ·subst h0
   have hm := Lib.hid (show stLess n r n r = false by rw [stLess, decide_eq_false_iff_not]; omega)
   go_enter Tryd.func33, Tryd.ntmps33
   go_wp2
   go_ret
   exact ⟨by rw [hm.out]; rfl, hbel.out _ _⟩
  ·have hm := Lib.hid (show stLess n r n s = decide (r < s) by rw [stLess, decide_eq_decide]; omega)
   go_enter Tryd.func33, Tryd.ntmps33
   go_wp2
   go_ret
   exact ⟨by rw [hm.out]; rfl, hbel.out _ _⟩
 ·have hm := Lib.hid (show stLess n r m s = decide (n < m) by rw [stLess, decide_eq_decide]; omega)
  go_enter Tryd.func33, Tryd.ntmps33
  go_wp2
  go_ret
  exact ⟨by rw [hm.out]; rfl, hbel.out _ _⟩
def StAt (w : World) (b : Nat) (n r : Int) : Prop := w.heap[b]? = some (.cells #[.int .i64 n, .int .i64 r] 46)
theorem StAt.c0 {w : World} {b : Nat} {n r : Int} (h : StAt w b n r) : w.cell? ⟨b, 0, none⟩ = some (.int .i64 n) := by rw [cell_of_row _ _ _ _ _ _ h]; rfl
theorem StAt.c1 {w : World} {b : Nat} {n r : Int} (h : StAt w b n r) : w.cell? ⟨b, 1, none⟩ = some (.int .i64 r) := by rw [cell_of_row _ _ _ _ _ _ h]; rfl
theorem StAt.fz {w : World} {b : Nat} {n r : Int} (h : StAt w b n r) (j : Nat) : w.frozen? ⟨b, j, none⟩ = false := frozen_of_row _ _ _ _ _ h
theorem StAt.lt {w : World} {b : Nat} {n r : Int} (h : StAt w b n r) : b < w.heap.size := by
 rcases Nat.lt_or_ge b w.heap.size with h1 | h1
 ·exact h1
 ·unfold StAt at h; rw [Array.getElem?_eq_none h1] at h; cases h
theorem StAt.below {w w' : World} {b B : Nat} {n r : Int} (h : StAt w b n r) (hb : Below B w w') (hB : b < B) : StAt w' b n r := by
 unfold StAt; rw [hb.block b hB]; exact h
theorem StAt.new (w : World) (n r : Int) : StAt (w.alloc (.cells #[.int .i64 n, .int .i64 r] 46)) w.heap.size n r := heap_alloc_new w _
theorem StAt.old {w : World} {b : Nat} {n r : Int} (h : StAt w b n r) (o : Obj) : StAt (w.alloc o) b n r := h.below ((Below.refl w.heap.size w).alloc (Nat.le_refl _) o) h.lt
theorem StAt.put {w : World} {b : Nat} {n r : Int} (h : StAt w b n r) (m s : Int) : StAt ((w.setCell ⟨b, 0, none⟩ (.int .i64 m)).setCell ⟨b, 1, none⟩ (.int .i64 s)) b m s := by
 unfold StAt
 rw [heap_setCell_same _ _ _ _ _ _ (heap_setCell_same _ _ _ _ _ _ h)]
 rfl
theorem below_put {B : Nat} {a w : World} (h : Below B a w) {b : Nat} (hb : B ≤ b) (u v : Value) : Below B a ((w.setCell ⟨b, 0, none⟩ u).setCell ⟨b, 1, none⟩ v) := (h.setCell hb u).setCell hb v
theorem load_st {w : World} {b : Nat} {n r : Int} (h : StAt w b n r) : (loadVar 46 ⟨b, 0, none⟩).run Tryd.prog w = .ok (st n r) w :=
 run_loadVar_row w b 46 46 _ (0, 0) _ h Tryd.underlying46 rfl (by kernel_rfl)
theorem res_st {fn : Func} {p : Tmp} (h : fn.results = #[.cell p 46]) {tmps : Array Value} {w : World} {b : Nat} {n r : Int} (hp : tmps.getD p undef = .pointer (some ⟨b, 0, none⟩)) (hs : StAt w b n r) :
  (results fn tmps).run Tryd.prog w = .ok (st n r) w := by
 have hp' : tmps[p]?.getD undef = .pointer (some ⟨b, 0, none⟩) := by simpa using hp
 simp [results, h, hp', asAddr, load_st hs]
theorem res_st3 {fn : Func} {p q s : Tmp} (h : fn.results = #[.cell p 46, .tmp q, .tmp s]) {tmps : Array Value} {w : World} {b : Nat} {n r : Int} (hp : tmps.getD p undef = .pointer (some ⟨b, 0, none⟩)) (hs : StAt w b n r) :
  (results fn tmps).run Tryd.prog w = .ok (.tuple #[st n r, tmps.getD q undef, tmps.getD s undef]) w := by
 have hp' : tmps[p]?.getD undef = .pointer (some ⟨b, 0, none⟩) := by simpa using hp
 simp [results, h, hp', asAddr, load_st hs]
end
section
open Go.RowKit WM
set_option maxRecDepth 20000
def PutInv (n : Int) (w : World) (k : Nat) (v : Value) (wr : World) : Prop :=
 ∃ L : List Int, (k ≤ 9 → L = encH k (n / 2 ^ (7 * (10 - k)))) ∧ (k = 10 → L = enc n) ∧ v = .slice (some ⟨w.heap.size, 0, none⟩) L.length 10 ∧
  wr.ownsRow w.heap.size 5 1 v L.length (L.map (Value.int .u8)) ∧ Below w.heap.size w wr
theorem pow_step (n : Int) (k : Nat) (hk : k ≤ 9) : n / 2 ^ (7 * (10 - k)) = n / 2 ^ (7 * (9 - k)) / 128 := by
 rw [show 7 * (10 - k) = 7 * (9 - k) + 7 by omega, Int.pow_add, Int.ediv_ediv_of_nonneg (Int.le_of_lt (Int.pow_pos (by omega)))]
 rfl
theorem put_skip {n : Int} {w wr : World} {k : Nat} {v : Value} (h : PutInv n w k v wr) (hk : k < 9) (hz : n / 2 ^ (7 * (9 - k)) = 0) : PutInv n w (k + 1) v wr := by
 obtain ⟨L, h1, _, h3, h4, h5⟩ := h
 refine ⟨L, fun _ => ?_, fun h => by omega, h3, h4, h5⟩
 rw [h1 (by omega), pow_step n k (by omega), show 10 - (k + 1) = 9 - k by omega, hz]
 simp [encH_zero]
theorem put_more {n : Int} {w wr w1 : World} {k : Nat} {L : List Int} {o : Obj} (hk : k < 9) (h1 : k ≤ 9 → L = encH k (n / 2 ^ (7 * (10 - k)))) (h5 : Below w.heap.size w wr) (hz : ¬ n / 2 ^ (7 * (9 - k)) = 0) {c : Int} (hc : c = n / 2 ^ (7 * (9 - k)) % 128 + 128)
  (ho : w1.ownsRow w.heap.size 5 1 (.slice (some ⟨w.heap.size, 0, none⟩) (L.length + 1) 10) (L.length + 1) (L.map (Value.int .u8) ++ [.int .u8 c])) (hg : (wr.alloc o).grownBy w1 (some w.heap.size)) :
  PutInv n w (k + 1) (.slice (some ⟨w.heap.size, 0, none⟩) (L.length + 1) 10) w1 := by
 refine ⟨L ++ [c], fun _ => ?_, fun h => by omega, by simp, by simpa using ho, ?_⟩
 ·rw [encH, show 10 - (k + 1) = 9 - k by omega, if_neg hz, ← pow_step n k (by omega), ← h1 (by omega), hc]
 ·exact (h5.alloc h5.size o).grown hg (by simpa using Nat.le_succ_of_le h5.size) (fun g hg => by simp at hg; omega)
theorem put_last {n : Int} {w wr w1 : World} {L : List Int} {o : Obj} (h1 : 9 ≤ 9 → L = encH 9 (n / 2 ^ (7 * (10 - 9)))) (h5 : Below w.heap.size w wr) {c : Int} (hc : c = n % 128)
  (ho : w1.ownsRow w.heap.size 5 1 (.slice (some ⟨w.heap.size, 0, none⟩) (L.length + 1) 10) (L.length + 1) (L.map (Value.int .u8) ++ [.int .u8 c])) (hg : (wr.alloc o).grownBy w1 (some w.heap.size)) :
  PutInv n w 10 (.slice (some ⟨w.heap.size, 0, none⟩) (L.length + 1) 10) w1 := by
 refine ⟨L ++ [c], fun h => by omega, fun _ => ?_, by simp, by simpa using ho, ?_⟩
 ·rw [enc, hc, h1 (by omega)]; rfl
 ·exact (h5.alloc h5.size o).grown hg (by simpa using Nat.le_succ_of_le h5.size) (fun g hg => by simp at hg; omega)
set_option maxHeartbeats 1000000 in
theorem put_any (n : Int) (w : World) (h0 : 0 ≤ n) (h1 : n ≤ 18446744073709551615) :
  Calls Tryd.prog 14 #[.int .u64 n] w fun e w' => ∃ v, e = .returned v ∧ PutInv n w 10 v w' := by
 obtain ⟨i0, hi, hz0, hz1, hz2⟩ := info_parts infoByte
 go_enter Tryd.func14, Tryd.ntmps14
 go_wp2_with (at_make; refine wpList_make_own _ rfl _ _ 27 rfl w.heap.size 5 i0 (.int .u8 0) 1 Tryd.underlying27 hi hz0 hz1 .i64 .i64 10 10 rfl rfl rfl (by omega) (by decide) (Nat.le_refl _) ?_; intro w1 hown hgrow)
 go_loopw [3, 8] (fun v i wr => ∃ k : Nat, k ≤ 10 ∧ i = .int .i64 k ∧ PutInv n w k v wr) (fun _ i _ => 10 - (intOf i).toNat)
 case atStart => exact ⟨0, by omega, rfl, [], fun _ => rfl, fun h => by omega, rfl, hown, (Below.refl _ _).grown hgrow (Nat.le_refl _) (fun _ h => by cases h)⟩
 case round =>
  obtain ⟨k, hk, rfl, hinv⟩ := hrel
  clear hown hgrow
  by_cases hk9 : k < 10
  ·by_cases hk8 : k < 9
   ·by_cases hz : n / 2 ^ (7 * (9 - k)) = 0
    ·have hzb : (n / 2 ^ (7 * (9 - k)) != 0) = false := by simp [hz]
     have H := Lib.hid (put_skip hinv hk8 hz)
     clear hinv hz
     go_wp2
     go_roundw
     case rel => exact ⟨k + 1, by omega, by go_num, H.out⟩
     case measure => simp [intOf]; omega
    ·have hzb : (n / 2 ^ (7 * (9 - k)) != 0) = true := by simp [hz]
     have hz' := Lib.hid hz
     clear hz
     obtain ⟨L, a1, _, rfl, ho, a5⟩ := hinv
     have hlen : L.length ≤ k := by rw [a1 (by omega)]; exact encH_len _ _
     have A1 := Lib.hid a1
     have hc := Lib.hid (top_set (n / 2 ^ (7 * (9 - k)) % 256) (by omega) (by omega))
     clear a1
     go_wp2_with (at_builtin; refine wpList_append_fits _ rfl _ _ 27 rfl w.heap.size 5 i0 1 Tryd.underlying27 hi hz1 w.heap.size L.length 10 _ rfl (ho.alloc _) ⟨wr.heap.size, 0, none⟩ 1 1 [.int .u8 (bits BinOp.or IntKind.u8 (n / 2 ^ (7 * (9 - k)) % 256) 128)] rfl rfl (one_cell rfl) (by intro u hu; simp at hu; subst hu; rfl) (by omega) ?_; intro w2 ho2 hg2)
     go_roundw
     case rel => exact ⟨k + 1, by omega, by go_num, put_more hk8 A1.out a5 hz'.out (by rw [hc.out]; omega) ho2 hg2⟩
     case measure => simp [intOf]; omega
   ·obtain rfl : k = 9 := by omega
    obtain ⟨L, a1, _, rfl, ho, a5⟩ := hinv
    have hlen : L.length ≤ 9 := by rw [a1 (by omega)]; exact encH_len _ _
    have A1 := Lib.hid a1
    have hc := Lib.hid (low_seven (n % 256) (by omega) (by omega))
    clear a1
    go_wp2_with (at_builtin; refine wpList_append_fits _ rfl _ _ 27 rfl w.heap.size 5 i0 1 Tryd.underlying27 hi hz1 w.heap.size L.length 10 _ rfl (ho.alloc _) ⟨wr.heap.size, 0, none⟩ 1 1 [.int .u8 (bits BinOp.andNot IntKind.u8 (n % 256) 128)] rfl rfl (one_cell rfl) (by intro u hu; simp at hu; subst hu; rfl) (by omega) ?_; intro w2 ho2 hg2)
    go_roundw
    case rel => exact ⟨10, by omega, rfl, put_last A1.out a5 (by rw [hc.out]; omega) ho2 hg2⟩
    case measure => simp [intOf]
  ·obtain rfl : k = 10 := by omega
   have H := Lib.hid hinv
   clear hinv
   go_wp2
   go_ret
   exact ⟨_, rfl, H.out⟩
theorem put_gives (n : Int) (w : World) (h0 : 0 ≤ n) (h1 : n ≤ 18446744073709551615) : Calls Tryd.prog 14 #[.int .u64 n] w (Gives w (enc n)) := by
 refine (put_any n w h0 h1).mono ?_
 rintro e w' ⟨v, rfl, L, _, hL, rfl, ho, hb⟩
 have hLe := hL rfl
 subst hLe
 exact ⟨_, _, _, rfl, rfl, (enc_len n).2, by decide, ho, hb⟩
end
section
open Go.RowKit WM
def getV : Option (Int × Nat) → Value
 | none => .tuple #[.int .u64 0, .int .i64 0, .bool false]
 | some (n, k) => .tuple #[.int .u64 n, .int .i64 k, .bool true]
def GetAt (zs : List Int) (k : Nat) (acc : Int) : Prop := dec zs = (decR (10 - k) (k == 0) acc (zs.drop k)).map fun p => (p.1, p.2 + k)
theorem getAt_end {zs : List Int} {k : Nat} {acc : Int} (h : GetAt zs k acc) (hk : k = 10 ∨ k = zs.length) : dec zs = none := by
 rw [h]
 rcases hk with rfl | rfl
 ·simp [decR]
 ·rw [List.drop_length]
  cases 10 - zs.length <;> simp [decR]
theorem getAt_open {zs : List Int} {k : Nat} {acc : Int} (h : GetAt zs k acc) (h10 : k < 10) (hk : k < zs.length) :
  dec zs = (if (k == 0 && zs.getD k 0 == 128) = true then none else if 144115188075855871 < acc then none else
   if zs.getD k 0 < 128 then some (acc * 128 + zs.getD k 0 % 128, 1) else (decR (10 - (k + 1)) false (acc * 128 + zs.getD k 0 % 128) (zs.drop (k + 1))).map fun p => (p.1, p.2 + 1)).map fun p => (p.1, p.2 + k) := by
 rw [h, drop_at hk, show 10 - k = (10 - (k + 1)) + 1 by omega, decR]
theorem getAt_next {zs : List Int} {k : Nat} {acc : Int} (h : GetAt zs k acc) (h10 : k < 10) (hk : k < zs.length) (hf : ¬ (k = 0 ∧ zs.getD k 0 = 128)) (ha : acc ≤ 144115188075855871) (hz : 128 ≤ zs.getD k 0) :
  GetAt zs (k + 1) (acc * 128 + zs.getD k 0 % 128) := by
 have := getAt_open h h10 hk
 rw [if_neg (by simpa using hf), if_neg (by omega), if_neg (by omega)] at this
 unfold GetAt
 rw [this, Option.map_map]
 simp only [show (k + 1 == 0) = false by simp]
 congr 1
 funext p
 simp
 omega
theorem getAt_done {zs : List Int} {k : Nat} {acc : Int} (h : GetAt zs k acc) (h10 : k < 10) (hk : k < zs.length) (hf : ¬ (k = 0 ∧ zs.getD k 0 = 128)) (ha : acc ≤ 144115188075855871) (hz : zs.getD k 0 < 128) :
  dec zs = some (acc * 128 + zs.getD k 0 % 128, k + 1) := by
 have := getAt_open h h10 hk
 rw [if_neg (by simpa using hf), if_neg (by omega), if_pos hz] at this
 rw [this]
 simp
 omega
theorem getAt_none {zs : List Int} {k : Nat} {acc : Int} (h : GetAt zs k acc) (h10 : k < 10) (hk : k < zs.length) (hf : (k = 0 ∧ zs.getD k 0 = 128) ∨ 144115188075855871 < acc) : dec zs = none := by
 have := getAt_open h h10 hk
 rw [this]
 by_cases h1 : (k == 0 && zs.getD k 0 == 128) = true
 ·rw [if_pos h1]; rfl
 ·rw [if_neg h1, if_pos]
  ·rfl
  ·rcases hf with hf | hf
   ·simp at h1; exact absurd hf.2 (by simpa using h1 hf.1)
   ·exact hf
theorem get_val {acc z : Int} (h0 : 0 ≤ acc) (h1 : acc ≤ 144115188075855871) (hz : 0 ≤ z ∧ z ≤ 255) : bits BinOp.or IntKind.u64 (acc * 128) (IntKind.u64.wrap (bits BinOp.andNot IntKind.u8 z 128)) = acc * 128 + z % 128 := by
 rw [low_seven z hz.1 hz.2, IntWalk.u64_in _ (by omega), or_seven acc (z % 128) h0 h1 (by omega) (by omega)]
set_option maxHeartbeats 1000000 in
theorem get_any {B : Nat} (A : Option Addr) (len cap : Nat) (zs : List Int) (w : World) (h : Byt w B A zs) (hl : zs.length = len) (hb : AllBytes zs) (hm : len ≤ maxLen) :
  Calls Tryd.prog 52 #[.slice A len cap] w fun e w' => e = .returned (getV (dec zs)) ∧ w = w' := by
 unfold maxLen at hm
 have hr : ∀ j, 0 ≤ zs.getD j 0 ∧ zs.getD j 0 ≤ 255 := fun j => by
  rcases Nat.lt_or_ge j zs.length with h1 | h1
  ·have := hb _ (List.getElem_mem h1)
   simpa [List.getD, List.getElem?_eq_getElem h1] using this
  ·simp [List.getD, List.getElem?_eq_none h1]
 have HL := Lib.hid hl
 have HR := Lib.hid hr
 have HB := Lib.hid h
 have HS := Lib.hid (rfl : getV none = getV none)
 clear hl hr hb h
 go_enter Tryd.func52, Tryd.ntmps52
 go_wp2
 go_step3
 go_wp2
 go_step3
 go_wp2
 go_loop [5, 7] (fun n i => ∃ (k : Nat) (acc : Int), k ≤ 10 ∧ k ≤ len ∧ i = .int .i64 k ∧ n = .int .u64 acc ∧ 0 ≤ acc ∧ acc ≤ 18446744073709551615 ∧ GetAt zs k acc) (fun _ i => 10 - (intOf i).toNat)
 case atStart => exact ⟨0, 0, by omega, by omega, rfl, rfl, by omega, by omega, by unfold GetAt; simp; rfl⟩
 case round =>
  obtain ⟨k, acc, hk, hkl, rfl, rfl, ha0, ha1, hg⟩ := hrel
  by_cases hk9 : k < 10
  ·by_cases hlt : k < len
   ·have hlt' : k < zs.length := by rw [HL.out]; exact hlt
    obtain ⟨b, off, rfl, _, hcell⟩ := HB.out (fun e => by rw [e] at hlt'; simp at hlt')
    have hc := hcell k hlt'
    have hz := HR.out k
    by_cases hf : k = 0 ∧ zs.getD k 0 = 128
    ·have hd := Lib.hid (getAt_none hg hk9 hlt' (.inl hf))
     obtain ⟨rfl, hf⟩ := hf
     rw [hf, Nat.add_zero] at hc
     clear hcell hg hlt' hf hz
     go_wp2
     go_ret3
     exact ⟨by rw [hd.out]; rfl, rfl⟩
    ·have hne : k = 0 → (zs.getD k 0 == 128) = false := fun e => by simp; intro h; exact hf ⟨e, by simpa using h⟩
     by_cases hac : acc ≤ 144115188075855871
     ·generalize hzz : zs.getD k 0 = z at *
      by_cases h128 : z < 128
      ·have hd := Lib.hid (by have := getAt_done hg hk9 hlt' (by rw [hzz]; exact hf) hac (by rw [hzz]; exact h128); rwa [hzz] at this : dec zs = some (acc * 128 + z % 128, k + 1))
       have HZ := Lib.hid hzz
       clear hcell hg hlt' hf hzz
       by_cases hk0 : k = 0
       ·subst hk0
        have hne' := hne rfl
        rw [Nat.add_zero] at hc
        clear hne
        go_wp2
        go_ret3
        refine ⟨?_, rfl⟩
        rw [hd.out]
        exact ret3 (congrArg _ (get_val ha0 hac hz)) rfl rfl
       ·clear hne
        go_wp2
        go_ret3
        refine ⟨?_, rfl⟩
        rw [hd.out]
        exact ret3 (congrArg _ (get_val ha0 hac hz)) rfl rfl
      ·have hd := Lib.hid (by have := getAt_next hg hk9 hlt' (by rw [hzz]; exact hf) hac (by rw [hzz]; omega); rwa [hzz] at this : GetAt zs (k + 1) (acc * 128 + z % 128))
       have HZ := Lib.hid hzz
       clear hcell hg hlt' hf hzz
       by_cases hk0 : k = 0
       ·subst hk0
        have hne' := hne rfl
        rw [Nat.add_zero] at hc
        clear hne
        go_wp2
        go_round
        case rel => exact ⟨0 + 1, _, by omega, by omega, rfl, congrArg _ (get_val ha0 hac hz), by omega, by omega, hd.out⟩
        case measure => simp [intOf]
       ·clear hne
        go_wp2
        go_round
        case rel => exact ⟨k + 1, _, by omega, by omega, by go_num, congrArg _ (get_val ha0 hac hz), by omega, by omega, hd.out⟩
        case measure => simp [intOf]; omega
     ·have hd := Lib.hid (getAt_none hg hk9 hlt' (.inr (by omega)))
      have hac' : 144115188075855871 < acc := by omega
      generalize zs.getD k 0 = z at *
      clear hcell hg hlt' hf hac
      by_cases hk0 : k = 0
      ·subst hk0
       have hne' := hne rfl
       rw [Nat.add_zero] at hc
       clear hne
       go_wp2
       go_ret3
       exact ⟨by rw [hd.out]; rfl, rfl⟩
      ·clear hne
       go_wp2
       go_ret3
       exact ⟨by rw [hd.out]; rfl, rfl⟩
   ·obtain rfl : k = len := by omega
    have hd := Lib.hid (getAt_end hg (.inr HL.out.symm))
    clear hg
    go_wp2
    go_ret3
    exact ⟨by rw [hd.out]; rfl, rfl⟩
  ·have hd := Lib.hid (getAt_end hg (.inl (by omega)))
   clear hg
   go_wp2
   go_ret3
   exact ⟨by rw [hd.out]; rfl, rfl⟩
end
section
open Go.RowKit WM
theorem own_wide {w : World} {base base' size n : Nat} {e : TypeId} {v : Value} {xs : List Value} (h : w.ownsRow base' e size v n xs) (hb : base ≤ base') : w.ownsRow base e size v n xs := by
 refine ⟨h.1, ?_⟩
 rcases h.2 with h1 | ⟨g, cap, cur, h1, h2, h3⟩
 ·exact .inl h1
 ·exact .inr ⟨g, cap, cur, h1, by omega, h3⟩
theorem or_three (a y : Int) (h0 : 0 ≤ a) (h1 : a ≤ 1099511627776) (h2 : 0 ≤ y) (h3 : y < 8) : bits .or .u64 (a * 8) y = a * 8 + y := by
 rw [u64_or _ _ (by omega) (by omega) h2 (by omega)]
 have := Nat.two_pow_add_eq_or_of_lt (i := 3) (b := y.toNat) (by omega) a.toNat
 rw [show (a * 8).toNat = 2 ^ 3 * a.toNat by omega, ← this]
 omega
theorem and_seven (a : Int) (h0 : 0 ≤ a) (h1 : a ≤ 18446744073709551615) : bits .and .u64 a 7 = a % 8 := by
 rw [u64_and _ _ h0 (by omega) (by omega) (by omega)]
 have := Nat.and_two_pow_sub_one_eq_mod a.toNat 3
 simp only [show Int.toNat 7 = 2 ^ 3 - 1 by decide, this]
 omega
def StPutPost (w : World) (n r : Int) (e : Ending) (w' : World) : Prop :=
 if may n r then GivesT w (enc (n * 8 + r)) e w' else e = .returned (.tuple #[.slice none 0 0, .bool false]) ∧ Below w.heap.size w w'
set_option maxHeartbeats 1000000 in
theorem stPut_any (n r : Int) (w : World) : Calls Tryd.prog 27 #[st n r] w (StPutPost w n r) := by
 have HC := Lib.hid (may_any n r)
 have S0 := Lib.hid (StAt.new w n r)
 have HB := Lib.hid ((((Below.refl w.heap.size w).alloc (Nat.le_refl _) (.cells #[.int .i64 n, .int .i64 r] 46))))
 cases hm : may n r
 ·have HP : Hid (∀ e w', e = .returned (.tuple #[.slice none 0 0, .bool false]) → Below w.heap.size w w' → StPutPost w n r e w') := Lib.hid (fun e w' h1 h2 => by unfold StPutPost; rw [hm]; exact ⟨h1, h2⟩)
  rw [hm] at HC
  unfold st at HC ⊢
  clear hm
  go_enter Tryd.func27, Tryd.ntmps27
  go_wp2_with fail
  refine (HC.out _).mono ?_
  rintro e w1 ⟨rfl, hb1⟩
  have bw := HB.out.trans (hb1.mono HB.out.size)
  clear hb1
  go_wp2
  go_ret2
  exact HP.out _ _ rfl bw
 ·have HP : Hid (∀ e w', GivesT w (enc (n * 8 + r)) e w' → StPutPost w n r e w') := Lib.hid (fun e w' h1 => by unfold StPutPost; rw [hm]; exact h1)
  rw [hm] at HC
  have hmay := may_iff.1 hm
  have n0 : 0 ≤ n := by omega
  have n1 : n ≤ 1099511627776 := by omega
  have r0 : 0 ≤ r := by omega
  have r1 : r < 8 := by omega
  have hor := or_three n r n0 n1 r0 r1
  have HPut := Lib.hid (fun w => put_gives (n * 8 + r) w (by omega) (by omega))
  unfold st at HC ⊢
  clear hm hmay
  go_enter Tryd.func27, Tryd.ntmps27
  go_wp2_with fail
  refine (HC.out _).mono ?_
  rintro e w1 ⟨rfl, hb1⟩
  have s0 := S0.out.below hb1 S0.out.lt
  have bw := HB.out.trans (hb1.mono HB.out.size)
  have a0 := s0.c0
  have a1 := s0.c1
  clear s0 hb1
  go_wp2_with fail
  refine (HPut.out _).mono ?_
  rintro e w2 ⟨A, k, c, rfl, hk, hkc, hc, hown, hb2⟩
  have HG := Lib.hid (HP.out _ _ (givesT_own (own_wide hown bw.size) (bw.trans (hb2.mono bw.size))))
  clear hown hb2 hk hkc hc
  go_wp2
  go_ret2
  exact HG.out
def stGet (zs : List Int) : Option (Int × Int × Nat) :=
 match dec zs with
 | none => none
 | some (x, k) => if may (x / 8) (x % 8) then some (x / 8, x % 8, k) else none
def stGetV : Option (Int × Int × Nat) → Value
 | none => .tuple #[st 0 0, .int .i64 0, .bool false]
 | some (n, r, k) => .tuple #[st n r, .int .i64 k, .bool true]
set_option maxHeartbeats 1000000 in
theorem stGet_any {B : Nat} (A : Option Addr) (len cap : Nat) (zs : List Int) (w : World) (h : Byt w B A zs) (hB : B ≤ w.heap.size) (hl : zs.length = len) (hb : AllBytes zs) (hm : len ≤ maxLen) :
  Calls Tryd.prog 69 #[.slice A len cap] w fun e w' => e = .returned (stGetV (stGet zs)) ∧ Below w.heap.size w w' := by
 have HG := Lib.hid (get_any A len cap zs (w.alloc (.cells #[.int .i64 0, .int .i64 0] 46)) ((h.wide hB).below ((Below.refl _ _).alloc (Nat.le_refl _) _)) hl hb hm)
 have HD := Lib.hid (fun x k => dec_some (n := x) (k := k) hb)
 have S0 := Lib.hid (StAt.new w 0 0)
 have HB := Lib.hid ((((Below.refl w.heap.size w).alloc (Nat.le_refl _) (.cells #[.int .i64 0, .int .i64 0] 46))))
 have hgv : stGet zs = stGet zs := rfl
 conv at hgv => rhs; unfold stGet
 clear h hB hl hb hm
 cases hd : dec zs with
 | none =>
  rw [hd] at HG hgv
  have HV := Lib.hid hgv
  unfold getV at HG
  clear hd hgv
  go_enter Tryd.func69, Tryd.ntmps69
  go_wp2_with fail
  refine HG.out.mono ?_
  rintro e w1 ⟨rfl, rfl⟩
  go_wp2
  refine bodyPost_ret (v := stGetV none) ?_ rfl ⟨by rw [HV.out], ?_⟩
  ·exact res_st3 Tryd.results69 rfl S0.out
  ·exact HB.out
 | some p =>
  obtain ⟨x, k⟩ := p
  rw [hd] at HG hgv
  obtain ⟨d1, d2, d3, d4, d5⟩ := HD.out x k hd
  unfold getV at HG
  simp only at HG hgv
  have x1 : IntKind.i64.wrap (x / 8) = x / 8 := IntWalk.i64_in _ (by omega)
  have x2 : bits .and .u64 x 7 = x % 8 := and_seven x d4 d5
  have x3 : IntKind.i64.wrap (x % 8) = x % 8 := IntWalk.i64_in _ (by omega)
  have HM := Lib.hid (may_any (x / 8) (x % 8))
  clear hd d3 HD
  go_enter Tryd.func69, Tryd.ntmps69
  go_wp2_with fail
  refine HG.out.mono ?_
  rintro e w1 ⟨rfl, rfl⟩
  have T0 := Lib.hid (S0.out.old (.cells #[.int .i64 (x / 8), .int .i64 (x % 8)] 46))
  have t1 := StAt.new (w.alloc (.cells #[.int .i64 0, .int .i64 0] 46)) (x / 8) (x % 8)
  rw [World.size_alloc] at t1
  have T1 := Lib.hid t1
  have HB1 := Lib.hid (HB.out.alloc HB.out.size (.cells #[.int .i64 (x / 8), .int .i64 (x % 8)] 46))
  clear t1
  cases hm : may (x / 8) (x % 8)
  ·rw [hm] at hgv HM
   have HV := Lib.hid (show stGet zs = none by rw [hgv]; rfl)
   unfold st at HM
   clear hgv hm
   go_wp2_with fail
   refine (HM.out _).mono ?_
   rintro e w2 ⟨rfl, hb2⟩
   have s0 := T0.out.below hb2 T0.out.lt
   have s1 := T1.out.below hb2 T1.out.lt
   have bw := HB1.out.trans (hb2.mono HB1.out.size)
   have a0 := s0.c0
   have a1 := s0.c1
   have b0 := s1.c0
   have b1 := s1.c1
   have f0 := s0.fz 0
   have f1 := s0.fz 1
   have S9 := Lib.hid (s0.put 0 0)
   have B9 := Lib.hid (below_put bw (Nat.le_refl w.heap.size) (.int .i64 0) (.int .i64 0))
   clear s0 s1 hb2 bw
   go_wp2
   refine bodyPost_ret (v := stGetV none) ?_ rfl ⟨by rw [HV.out], ?_⟩
   ·exact res_st3 Tryd.results69 rfl S9.out
   ·exact B9.out
  ·rw [hm] at hgv HM
   have HV := Lib.hid (show stGet zs = some (x / 8, x % 8, k) by rw [hgv]; rfl)
   unfold st at HM
   clear hgv hm
   go_wp2_with fail
   refine (HM.out _).mono ?_
   rintro e w2 ⟨rfl, hb2⟩
   have s0 := T0.out.below hb2 T0.out.lt
   have s1 := T1.out.below hb2 T1.out.lt
   have bw := HB1.out.trans (hb2.mono HB1.out.size)
   have a0 := s0.c0
   have a1 := s0.c1
   have b0 := s1.c0
   have b1 := s1.c1
   have f0 := s0.fz 0
   have f1 := s0.fz 1
   have S9 := Lib.hid (s0.put (x / 8) (x % 8))
   have B9 := Lib.hid (below_put bw (Nat.le_refl w.heap.size) (.int .i64 (x / 8)) (.int .i64 (x % 8)))
   clear s0 s1 hb2 bw
   go_wp2
   refine bodyPost_ret (v := stGetV (some (x / 8, x % 8, k))) ?_ rfl ⟨by rw [HV.out], ?_⟩
   ·exact res_st3 Tryd.results69 rfl S9.out
   ·exact B9.out
end
section
open Go.RowKit WM
theorem st_ne {n r m s : Int} (h : ¬ (n = m ∧ r = s)) (w : World) : (Op.equalIn 10000 46 (.agg #[.int .i64 n, .int .i64 r]) (.agg #[.int .i64 m, .int .i64 s])).run Tryd.prog w = .ok false w := by
 by_cases h1 : n = m
 ·have h2 : ¬ r = s := fun e => h ⟨h1, e⟩
  subst h1
  go_simp
 ·go_simp
theorem stPut_yes (n r : Int) (w : World) (h : may n r = true) : Calls Tryd.prog 27 #[st n r] w (GivesT w (enc (n * 8 + r))) := by
 have := stPut_any n r w
 unfold StPutPost at this
 rw [h] at this
 exact this
theorem stGet_put {n r : Int} (t : List Int) (h : may n r = true) : stGet (enc (n * 8 + r) ++ t) = some (n, r, (enc (n * 8 + r)).length) := by
 have hm := may_iff.1 h
 unfold stGet
 rw [dec_enc _ _ (by omega) (by omega)]
 simp only
 rw [show (n * 8 + r) / 8 = n by omega, show (n * 8 + r) % 8 = r by omega, h]
 rfl
theorem stGet_some {zs : List Int} {n r : Int} {k : Nat} (hb : AllBytes zs) (h : stGet zs = some (n, r, k)) : may n r = true ∧ k ≤ zs.length ∧ enc (n * 8 + r) = zs.take k := by
 unfold stGet at h
 split at h
 ·cases h
 ·rename_i x j hd
  obtain ⟨d1, d2, d3, d4, d5⟩ := dec_some hb hd
  split at h
  ·rename_i hm
   simp only [Option.some.injEq, Prod.mk.injEq] at h
   obtain ⟨rfl, rfl, rfl⟩ := h
   exact ⟨hm, d2, by rw [show x / 8 * 8 + x % 8 = x by omega]; exact d3⟩
  ·cases h
end
section
open Go.RowKit WM
theorem toList_loop (b : ByteArray) : ∀ (k i : Nat) (r : List UInt8), b.size - i = k → ByteArray.toList.loop b i r = r.reverse ++ b.data.toList.drop i
 | 0, i, r, h => by
  rw [ByteArray.toList.loop, if_neg (by omega), List.drop_eq_nil_of_le (by rw [Array.length_toList]; show b.size ≤ i; omega), List.append_nil]
 | k + 1, i, r, h => by
  have hi : i < b.size := by omega
  have hi' : i < b.data.toList.length := by rw [Array.length_toList]; exact hi
  rw [ByteArray.toList.loop, if_pos hi, toList_loop b k (i + 1) _ (by omega), List.drop_eq_getElem_cons hi']
  simp [ByteArray.get!, getElem!_pos b.data i hi]
theorem toList_data (b : ByteArray) : b.toList = b.data.toList := by
 rw [ByteArray.toList, toList_loop b _ 0 [] rfl]
 simp
theorem str_eq {xs ys : List Int} (hx : AllBytes xs) (hy : AllBytes ys) : ((strOfNums xs).toList == (strOfNums ys).toList) = decide (xs = ys) := by
 by_cases h : xs = ys
 ·subst h; simp
 ·rw [decide_eq_false h]
  rw [beq_eq_false_iff_ne]
  intro e
  refine h ((strOfNums_inj hx hy).1 ?_)
  rw [toList_data, toList_data] at e
  unfold strOfNums at e ⊢
  simpa using e
def lessL : List Int → List Int → Bool
 | _, [] => false
 | [], _ :: _ => true
 | a :: x, b :: y => decide (a < b) || (a == b && lessL x y)
end
section
open Go.RowKit WM
structure Cel where
 n : Int
 r : Int
 s : ByteArray
def Cel.v (c : Cel) : Value := .agg #[.int .i64 c.n, .int .i64 c.r, .string c.s]
def ClAt (w : World) (b : Nat) (c : Cel) : Prop := w.heap[b]? = some (.cells #[.int .i64 c.n, .int .i64 c.r, .string c.s] 101)
theorem ClAt.c0 {w : World} {b : Nat} {c : Cel} (h : ClAt w b c) : w.cell? ⟨b, 0, none⟩ = some (.int .i64 c.n) := by rw [cell_of_row _ _ _ _ _ _ h]; rfl
theorem ClAt.c1 {w : World} {b : Nat} {c : Cel} (h : ClAt w b c) : w.cell? ⟨b, 1, none⟩ = some (.int .i64 c.r) := by rw [cell_of_row _ _ _ _ _ _ h]; rfl
theorem ClAt.c2 {w : World} {b : Nat} {c : Cel} (h : ClAt w b c) : w.cell? ⟨b, 2, none⟩ = some (.string c.s) := by rw [cell_of_row _ _ _ _ _ _ h]; rfl
theorem ClAt.lt {w : World} {b : Nat} {c : Cel} (h : ClAt w b c) : b < w.heap.size := by
 rcases Nat.lt_or_ge b w.heap.size with h1 | h1
 ·exact h1
 ·unfold ClAt at h; rw [Array.getElem?_eq_none h1] at h; cases h
theorem ClAt.below {w w' : World} {b B : Nat} {c : Cel} (h : ClAt w b c) (hb : Below B w w') (hB : b < B) : ClAt w' b c := by
 unfold ClAt; rw [hb.block b hB]; exact h
theorem ClAt.new (w : World) (c : Cel) : ClAt (w.alloc (.cells #[.int .i64 c.n, .int .i64 c.r, .string c.s] 101)) w.heap.size c := heap_alloc_new w _
def cmay (c : Cel) : Bool := may c.n c.r && decide (1 ≤ c.n) && decide (c.s.size ≤ 200)
theorem cmay_iff {c : Cel} : cmay c = true ↔ may c.n c.r = true ∧ 1 ≤ c.n ∧ c.s.size ≤ 200 := by
 simp [cmay, and_assoc]
set_option maxHeartbeats 1000000 in
theorem cmay_any (c : Cel) (w : World) : Calls Tryd.prog 58 #[c.v] w fun e w' => e = .returned (.bool (cmay c)) ∧ Below w.heap.size w w' := by
 have HC := Lib.hid (may_any c.n c.r)
 have S0 := Lib.hid (ClAt.new w c)
 have HB := Lib.hid ((((Below.refl w.heap.size w).alloc (Nat.le_refl _) (.cells #[.int .i64 c.n, .int .i64 c.r, .string c.s] 101))))
 unfold Cel.v
 cases hm : may c.n c.r
 ·have HV := Lib.hid (show cmay c = false by simp [cmay, hm])
  rw [hm] at HC
  unfold st at HC
  clear hm
  go_enter Tryd.func58, Tryd.ntmps58
  go_wp2_with fail
  refine (HC.out _).mono ?_
  rintro e w1 ⟨rfl, hb1⟩
  have bw := Lib.hid (HB.out.trans (hb1.mono HB.out.size))
  clear hb1
  go_wp2
  go_ret
  exact ⟨by rw [HV.out]; rfl, bw.out⟩
 ·rw [hm] at HC
  have hmay := may_iff.1 hm
  by_cases h0 : 1 ≤ c.n
  ·have hne := st_ne (n := c.n) (r := c.r) (m := 0) (s := 0) (by omega)
   have HV := Lib.hid (show cmay c = decide ((c.s.size : Int) ≤ 200) by simp [cmay, hm, h0]; omega)
   unfold st at HC
   clear hm hmay
   go_enter Tryd.func58, Tryd.ntmps58
   go_wp2_with fail
   refine (HC.out _).mono ?_
   rintro e w1 ⟨rfl, hb1⟩
   have bw := Lib.hid (HB.out.trans (hb1.mono HB.out.size))
   have s0 := S0.out.below hb1 S0.out.lt
   have a0 := s0.c0
   have a1 := s0.c1
   have a2 := s0.c2
   clear hb1 s0
   go_wp2
   go_ret
   exact ⟨by rw [HV.out]; rfl, bw.out⟩
  ·have n0 : c.n = 0 := by omega
   have r0 : c.r = 0 := by omega
   have HV := Lib.hid (show cmay c = false by simp [cmay, h0])
   rw [n0, r0] at HC S0 HB ⊢
   unfold st at HC
   clear hm hmay h0
   go_enter Tryd.func58, Tryd.ntmps58
   go_wp2_with fail
   refine (HC.out _).mono ?_
   rintro e w1 ⟨rfl, hb1⟩
   have bw := Lib.hid (HB.out.trans (hb1.mono HB.out.size))
   have s0 := S0.out.below hb1 S0.out.lt
   have a0 := s0.c0
   have a1 := s0.c1
   rw [n0] at a0
   rw [r0] at a1
   have a2 := s0.c2
   clear hb1 s0 n0 r0
   go_wp2
   go_ret
   exact ⟨by rw [HV.out]; rfl, bw.out⟩
end
end
end Go.Proofs.YtkjimhlpbgeagaaDoor
