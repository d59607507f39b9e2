/-
  Small facts for all contracts of this seat: a slice that reads as a list of bytes ('Byt'), what keeps it so, its text, and or, and-not on a byte. No program is named here.
-/
import Derived.WalkKit
import Derived.Laws.BitsAllLaws
import Derived.Laws.BytesArg
import Derived.Deep.OwnRows
import Derived.Deep.Draws
import Derived.Lib.Hide
import Derived.Deep.RegionHeld3
import Derived.Laws.AppendOwnNone
import Derived.OpenShut
import Derived.Lib.AppendStr
import Derived.Test.YtonbhcbkelmhgaaDoorWireMath
namespace Go.Proofs.YtonbhcbkelmhgaaDoor
open Go.RowKit WM

/-! ### Bits -/
theorem or_seven (a y : Int) (h0 : 0 ≤ a) (h1 : a ≤ 144115188075855871) (h2 : 0 ≤ y) (h3 : y < 128) : bits .or .u64 (a * 128) y = a * 128 + y := by
  rw [u64_or _ _ (by omega) (by omega) h2 (by omega)]
  have := Nat.two_pow_add_eq_or_of_lt (i := 7) (b := y.toNat) (by omega) a.toNat
  rw [show (a * 128).toNat = 2 ^ 7 * a.toNat by omega, ← this]
  omega
theorem or_eight (a y : Int) (h0 : 0 ≤ a) (h1 : a ≤ 16777215) (h2 : 0 ≤ y) (h3 : y < 256) : bits .or .u32 (a * 256) y = a * 256 + y := by
  rw [u32_or _ _ (by omega) (by omega) h2 (by omega)]
  have := Nat.two_pow_add_eq_or_of_lt (i := 8) (b := y.toNat) (by omega) a.toNat
  rw [show (a * 256).toNat = 2 ^ 8 * a.toNat by omega, ← this]
  omega
theorem low_seven (z : Int) (h0 : 0 ≤ z) (h1 : z ≤ 255) : bits .andNot .u8 z 128 = z % 128 := by
  rw [u8_andNot _ _ h0 (by omega) (by omega) (by omega)]
  have := Nat.and_two_pow_sub_one_eq_mod z.toNat 7
  simp only [show (255 - Int.toNat 128) = 2 ^ 7 - 1 by decide, this]
  omega
theorem top_set (z : Int) (h0 : 0 ≤ z) (h1 : z ≤ 255) : bits .or .u8 z 128 = z % 128 + 128 := by
  by_cases h : z < 128
  · have := Nat.two_pow_add_eq_or_of_lt (i := 7) (b := z.toNat) (by omega) 1
    rw [u8_or _ _ h0 (by omega) (by omega) (by omega), Nat.or_comm, show Int.toNat 128 = 2 ^ 7 * 1 by decide, ← this]
    omega
  · have := Nat.two_pow_add_eq_or_of_lt (i := 7) (b := z.toNat - 128) (by omega) 1
    rw [u8_or _ _ h0 (by omega) (by omega) (by omega), Nat.or_comm, show Int.toNat 128 = 2 ^ 7 * 1 by decide]
    rw [show z.toNat = 2 ^ 7 * 1 + (z.toNat - 128) by omega, this, ← Nat.or_assoc, Nat.or_self, ← this]
    omega

/-- A region that draws its order: more may be asked of the world from here on. -/
theorem wpAnyH_sub {P : Program} {ops : Array Oper} {Q : Exit → Act → World → Prop} {md : Region.Mode} {S S' : World → Prop} (hs : ∀ w, S' w → S w) :
    ∀ {fuel : Nat} {listed : Array Bool} {a : Act} {w : World}, wpAnyH P md ops Q S' fuel listed a w → wpAnyH P md ops Q S fuel listed a w
  | 0, _, _, _, h => h
  | _ + 1, _, _, _, h => ⟨h.1, fun i hi => wpOp_mono (fun _ w' h' => ⟨hs w' h'.1, wpAnyH_sub hs h'.2⟩) (h.2 i hi)⟩

/-! ### A slice that reads as bytes -/
/-- The slice at A has the bytes zs, all below block B. -/
def Byt (w : World) (B : Nat) (A : Option Addr) (zs : List Int) : Prop :=
  zs ≠ [] → ∃ b off, A = some ⟨b, off, none⟩ ∧ b < B ∧ ∀ i, i < zs.length → w.cell? ⟨b, off + i, none⟩ = some (.int .u8 (zs.getD i 0))

variable {w w' : World} {B B' : Nat} {A : Option Addr} {zs : List Int}
theorem Byt.nil : Byt w B A [] := fun h => absurd rfl h
theorem Byt.move (h : Byt w B A zs) (hk : ∀ p : Addr, p.block < B → w'.cell? p = w.cell? p) : Byt w' B A zs := fun hn => by
  obtain ⟨b, off, e, hb, hc⟩ := h hn
  exact ⟨b, off, e, hb, fun i hi => (hk _ hb).trans (hc i hi)⟩
theorem Byt.wide (h : Byt w B A zs) (hB : B ≤ B') : Byt w B' A zs := fun hn => by
  obtain ⟨b, off, e, hb, hc⟩ := h hn
  exact ⟨b, off, e, by omega, hc⟩
theorem Byt.below (h : Byt w B A zs) (hb : Below B w w') : Byt w' B A zs := h.move fun _ hp => hb.cell hp
theorem Byt.take (h : Byt w B A zs) (k : Nat) : Byt w B A (zs.take k) := fun hn => by
  obtain ⟨b, off, e, hb, hc⟩ := h (fun e => hn (by simp [e]))
  refine ⟨b, off, e, hb, fun i hi => ?_⟩
  have hi' : i < k ∧ i < zs.length := by simpa [List.length_take, Nat.lt_min] using hi
  rw [hc i hi'.2]
  simp [List.getD, hi'.1]
theorem Byt.drop (h : Byt w B A zs) {k cap : Nat} (hc : zs.length ≤ cap) :
    Byt w B (if cap = k then A else A.map (·.add k)) (zs.drop k) := fun hn => by
  have hlt : k < zs.length := by
    rcases Nat.lt_or_ge k zs.length with h1 | h1
    · exact h1
    · exact absurd (List.drop_eq_nil_of_le h1) hn
  obtain ⟨b, off, rfl, hb, hcell⟩ := h (fun e => by simp [e] at hlt)
  rw [if_neg (by omega)]
  refine ⟨b, off + k, by simp [Addr.add], hb, fun i hi => ?_⟩
  have hi' : k + i < zs.length := by simp at hi; omega
  rw [Nat.add_assoc, hcell (k + i) hi']
  simp [List.getD, List.getElem?_drop]
/-- A row of the call's own reads as its bytes. -/
theorem Byt.own {base : Nat} {e : TypeId} {n c : Nat} (h : w.ownsRow base e 1 (.slice A n c) n (zs.map (Value.int .u8))) : Byt w w.heap.size A zs := fun hn => by
  have hl : zs.length = n := by simpa using h.1
  have h0 : 0 < n := by
    rw [← hl]
    exact List.length_pos_iff.2 hn
  rcases h.2 with ⟨_, h1⟩ | ⟨g, cap, cur, hv, _, hh, hnc, _, hsz, htk⟩
  · omega
  have hA : A = some ⟨g, 0, none⟩ := by injection hv
  subst hA
  have hlt : g < w.heap.size := by
    rcases Nat.lt_or_ge g w.heap.size with h1 | h1
    · exact h1
    · rw [Array.getElem?_eq_none h1] at hh; cases hh
  refine ⟨g, 0, rfl, hlt, fun i hi => ?_⟩
  rw [Nat.zero_add, cell_of_row w g i cur e (0, 0) hh]
  have h2 := congrArg (fun l => l[i]?) htk
  simp only [List.getElem?_take, Nat.mul_one, show i < n by omega, if_true, Array.getElem?_toList, List.getElem?_map, List.getElem?_eq_getElem hi, Option.map_some] at h2
  rw [h2]
  simp [List.getD, List.getElem?_eq_getElem hi]

/-- string(b) -/
theorem Byt.text {P : Program} (h : Byt w B A zs) {len cap : Nat} (hl : zs.length = len) (src e dst : TypeId) (hs : P.underlying src = some (.slice e)) (he : P.underlying e = some (.int .u8)) (hd : P.underlying dst = some .string) :
    (convert src dst (.slice A len cap)).run P w = .ok (.string (strOfNums zs)) w := by
  by_cases hn : zs = []
  · subst hn
    simp at hl
    subst hl
    rw [run_convert_bytes_string w src dst e _ 0 cap hs he hd]
    cases A with
    | none => simp [Conv.bytesToString]; rfl
    | some a =>
      rw [run_bytesToString w a 0 cap [] (run_loadCells_list (P := P) w a [] (fun j v hj => by simp at hj))]
      rfl
  · obtain ⟨b, off, rfl, _, hc⟩ := h hn
    exact run_convert_bytes_arg w src e hs he b off len cap zs hl (fun i hi => hc i (by omega)) dst hd

/-- append(v, x...), v the call's own, x bytes of whatever make. -/
theorem wpList_append_byt {P : Program} (w : World) {ops : Array Oper} {rest : List Oper} {o : Oper} {a : Act} {Q : Exit → Act → World → Prop} (hgd : o.guard = none) (s x : Operand) (t : TypeId)
    (ho : o.op = .call { callee := .builtin .append, args := #[s, x], argTypes := #[t, t] })
    (base : Nat) (e : TypeId) (i : TypeInfo) (ht : P.underlying t = some (.slice e)) (hi : P.info? e = some i) (hz : i.zero = some (.int .u8 0)) (hsize : i.size = 1) (hby : i.bytes = 1)
    (v : Value) (n : Nat) (ys : List Int) (hs : a.eval s = v) (hown : w.ownsRow base e 1 v n (ys.map (Value.int .u8)))
    (B : Nat) (A : Option Addr) (m c : Nat) (zs : List Int) (hx : a.eval x = .slice A m c) (hr : Byt w B A zs) (hl : zs.length = m) (hnil : A = none → c = 0) (hlen : n + m ≤ 140737488355328) (hbase : base ≤ w.heap.size)
    (h : ∀ v' w', w'.ownsRow base e 1 v' (n + m) ((ys ++ zs).map (Value.int .u8)) → w.grownBy w' v.ownBlock → wpList P ops Q rest (a.put o.dst v') w') : wpList P ops Q (o :: rest) a w := by
  have fin : ∀ ad : Addr, A = some ad → (∀ j u, (zs.map (Value.int .u8))[j]? = some u → w.cell? (ad.add j) = some u) → wpList P ops Q (o :: rest) a w := by
    intro ad hA hc
    subst hA
    refine wpList_append_own w hgd s x t ho base e i (.int .u8 0) 1 1 ht hi hz hsize hby rfl (by omega) v n _ hs hown ad m c (zs.map (Value.int .u8)) hx (by simp [hl]) hc (by
      intro u hu
      obtain ⟨_, _, rfl⟩ := List.mem_map.1 hu
      rfl) (by simp only [maxLen]; omega) (by omega) hbase ?_
    intro v' w' h1 h2 _
    exact h v' w' (by rw [List.map_append]; exact h1) h2
  by_cases hn : zs = []
  · subst hn
    cases A with
    | none =>
      have hc0 := hnil rfl
      simp at hl
      subst hl
      subst hc0
      refine wpList_append_own_none hgd s x t ho base e i 1 ht hi v n _ hs hown hx ?_
      exact h v w (by simpa using hown) (World.grownBy.refl w _)
    | some ad => exact fin ad rfl (fun j u hj => by simp at hj)
  · obtain ⟨b, off, hA, _, hc⟩ := hr hn
    refine fin _ hA (fun j u hj => ?_)
    rw [List.getElem?_map, Option.map_eq_some_iff] at hj
    obtain ⟨z, hz1, rfl⟩ := hj
    have hjl := (List.getElem?_eq_some_iff.1 hz1).1
    rw [Addr.add_lit, hc j hjl]
    simp [List.getD, hz1]
/-- A row that was just laid is the call's own. -/
theorem own_new (w : World) (base : Nat) (hb : base ≤ w.heap.size) (e : TypeId) (zs : List Int) (hl : zs.length ≤ maxLen) :
    (w.alloc (.cells (zs.map (Value.int .u8)).toArray e)).ownsRow base e 1 (.slice (some ⟨w.heap.size, 0, none⟩) zs.length zs.length) zs.length (zs.map (Value.int .u8)) := by
  refine ⟨by simp, .inr ⟨w.heap.size, zs.length, (zs.map (Value.int .u8)).toArray, rfl, hb, heap_alloc_new w _, Nat.le_refl _, hl, by simp, ?_⟩⟩
  rw [List.take_of_length_le (by simp)]

/-- What a law is told of a slice of integers that came in: nil, or a row of cap cells, the first len of which are its elements. -/
def IsRow (k : IntKind) (w : World) (a : Option Addr) (len cap : Nat) (zs : List Int) : Prop :=
  (a = none ∧ len = 0 ∧ cap = 0 ∧ zs = []) ∨
  ∃ x, a = some x ∧ len ≤ cap ∧ cap ≤ maxLen ∧ zs.length = cap ∧ (∀ i, i < zs.length → w.cell? (x.add i) = some (.int k (zs.getD i 0))) ∧ ∀ n ∈ zs, (Lit.int k n).wf = true
theorem IsRow.byt {len cap : Nat} (h : IsRow .u8 w A len cap zs) : Byt w w.heap.size A (zs.take len) ∧ (zs.take len).length = len ∧ AllBytes (zs.take len) ∧ len ≤ cap ∧ cap ≤ maxLen := by
  rcases h with ⟨rfl, rfl, rfl, rfl⟩ | ⟨x, rfl, hl, hm, hz, hcell, hwz⟩
  · exact ⟨by rw [List.take_zero]; exact Byt.nil, by simp, fun z hz => by simp at hz, by omega, by decide⟩
  · refine ⟨fun hn => ?_, by rw [List.length_take]; omega, fun z hz => ?_, hl, hm⟩
    · have h0 : 0 < (zs.take len).length := List.length_pos_iff.2 hn
      have h1 : 0 < zs.length := by rw [List.length_take] at h0; omega
      obtain ⟨b, off, spot⟩ := x
      have hspot : spot = none := by simpa [Addr.add] using World.cell?_spot (hcell 0 h1)
      subst hspot
      have hlt : b < w.heap.size := by
        have := hcell 0 h1
        rcases Nat.lt_or_ge b w.heap.size with h2 | h2
        · exact h2
        · rw [Addr.add_lit, World.cell?] at this
          rw [Array.getElem?_eq_none h2] at this
          cases this
      refine ⟨b, off, rfl, hlt, fun i hi => ?_⟩
      have hi' : i < len ∧ i < zs.length := by simpa [List.length_take, Nat.lt_min] using hi
      have := hcell i hi'.2
      rw [Addr.add_lit] at this
      rw [this]
      simp [List.getD, hi'.1]
    · exact bounds_u8 (hwz z (List.mem_of_mem_take hz))

/-- .. of whatever kind: its cells. -/
theorem IsRow.cells {k : IntKind} {len cap : Nat} (h : IsRow k w A len cap zs) : len ≤ cap ∧ cap ≤ maxLen ∧ (zs.take len).length = len ∧ (∀ z ∈ zs.take len, (Lit.int k z).wf = true) ∧
    (0 < len → ∃ b off, A = some ⟨b, off, none⟩ ∧ b < w.heap.size ∧ ∀ i, i < len → w.cell? ⟨b, off + i, none⟩ = some (.int k ((zs.take len).getD i 0))) := by
  rcases h with ⟨rfl, rfl, rfl, rfl⟩ | ⟨x, rfl, hl, hm, hz, hcell, hwz⟩
  · exact ⟨by omega, by decide, by simp, fun z hz => by simp at hz, fun h => by omega⟩
  · refine ⟨hl, hm, by rw [List.length_take]; omega, fun z hz => hwz z (List.mem_of_mem_take hz), fun h0 => ?_⟩
    have h1 : 0 < zs.length := by omega
    obtain ⟨b, off, spot⟩ := x
    have hspot : spot = none := by simpa [Addr.add] using World.cell?_spot (hcell 0 h1)
    subst hspot
    have hlt : b < w.heap.size := by
      have := hcell 0 h1
      rcases Nat.lt_or_ge b w.heap.size with h2 | h2
      · exact h2
      · rw [Addr.add_lit, World.cell?] at this
        rw [Array.getElem?_eq_none h2] at this
        cases this
    refine ⟨b, off, rfl, hlt, fun i hi => ?_⟩
    have := hcell i (by omega)
    rw [Addr.add_lit] at this
    rw [this]
    simp [List.getD, hi]
/-- .. of a slice of texts. -/
def IsStrs (w : World) (a : Option Addr) (len cap : Nat) (ss : List ByteArray) : Prop :=
  (a = none ∧ len = 0 ∧ cap = 0 ∧ ss = []) ∨
  ∃ x, a = some x ∧ len ≤ cap ∧ cap ≤ maxLen ∧ ss.length = cap ∧ (∀ i, i < ss.length → w.cell? (x.add i) = some (.string (ss.getD i ByteArray.empty))) ∧ ∀ s ∈ ss, s.size ≤ maxLen
theorem IsStrs.cells {len cap : Nat} {ss : List ByteArray} (h : IsStrs w A len cap ss) : len ≤ cap ∧ cap ≤ maxLen ∧ (ss.take len).length = len ∧ (∀ s ∈ ss.take len, s.size ≤ maxLen) ∧
    (0 < len → ∃ b off, A = some ⟨b, off, none⟩ ∧ b < w.heap.size ∧ ∀ i, i < len → w.cell? ⟨b, off + i, none⟩ = some (.string ((ss.take len).getD i ByteArray.empty))) := by
  rcases h with ⟨rfl, rfl, rfl, rfl⟩ | ⟨x, rfl, hl, hm, hz, hcell, hwz⟩
  · exact ⟨by omega, by decide, by simp, fun z hz => by simp at hz, fun h => by omega⟩
  · refine ⟨hl, hm, by rw [List.length_take]; omega, fun z hz => hwz z (List.mem_of_mem_take hz), fun h0 => ?_⟩
    have h1 : 0 < ss.length := by omega
    obtain ⟨b, off, spot⟩ := x
    have hspot : spot = none := by simpa [Addr.add] using World.cell?_spot (hcell 0 h1)
    subst hspot
    have hlt : b < w.heap.size := by
      have := hcell 0 h1
      rcases Nat.lt_or_ge b w.heap.size with h2 | h2
      · exact h2
      · rw [Addr.add_lit, World.cell?] at this
        rw [Array.getElem?_eq_none h2] at this
        cases this
    refine ⟨b, off, rfl, hlt, fun i hi => ?_⟩
    have := hcell i (by omega)
    rw [Addr.add_lit] at this
    rw [this]
    simp [List.getD, hi]
/-- What is owned stays owned while all that was there stays. -/
theorem own_below {w w' : World} {base size n : Nat} {e : TypeId} {v : Value} {xs : List Value} (h : w.ownsRow base e size v n xs) (hb : Below w.heap.size w w') : w'.ownsRow base e size v n xs := by
  refine ⟨h.1, ?_⟩
  rcases h.2 with h1 | ⟨g, cap, cur, h1, h2, hh, h4⟩
  · exact .inl h1
  · refine .inr ⟨g, cap, cur, h1, h2, ?_, h4⟩
    have hlt : g < w.heap.size := by
      rcases Nat.lt_or_ge g w.heap.size with h3 | h3
      · exact h3
      · rw [Array.getElem?_eq_none h3] at hh; cases hh
    rw [hb.block g hlt]
    exact hh
theorem own_base {w : World} {base size n g : Nat} {e : TypeId} {v : Value} {xs : List Value} (h : w.ownsRow base e size v n xs) (hg : v.ownBlock = some g) : base ≤ g := by
  rcases h.2 with ⟨rfl, _⟩ | ⟨g', cap, cur, rfl, hb, _⟩
  · simp [Value.ownBlock] at hg
  · simp [Value.ownBlock] at hg; omega
theorem own_nil {w : World} {base n c : Nat} {e : TypeId} {A : Option Addr} {xs : List Value} (h : w.ownsRow base e 1 (.slice A n c) n xs) (hA : A = none) : c = 0 := by
  rcases h.2 with ⟨h1, _⟩ | ⟨g, cap, cur, h1, _⟩
  · injection h1
  · injection h1 with h1; rw [hA] at h1; cases h1

/-- Two texts of bytes are the same just if the bytes are. -/
theorem strOfNums_inj {xs ys : List Int} (hx : AllBytes xs) (hy : AllBytes ys) : strOfNums xs = strOfNums ys ↔ xs = ys := by
  constructor
  · intro h
    have h1 : xs.map (fun n => UInt8.ofNat n.toNat) = ys.map fun n => UInt8.ofNat n.toNat := by rw [← strOfNums_data, ← strOfNums_data, h]
    clear h
    induction xs generalizing ys with
    | nil => cases ys with
      | nil => rfl
      | cons y ys => simp at h1
    | cons x xs ih => cases ys with
      | nil => simp at h1
      | cons y ys =>
        simp only [List.map_cons, List.cons.injEq] at h1
        have h2 := congrArg UInt8.toNat h1.1
        simp only [UInt8.toNat_ofNat'] at h2
        have a := hx x (by simp)
        have b := hy y (by simp)
        rw [ih (fun z hz => hx z (by simp [hz])) (fun z hz => hy z (by simp [hz])) h1.2, show x = y by omega]
  · rintro rfl; rfl
end Go.Proofs.YtonbhcbkelmhgaaDoor
