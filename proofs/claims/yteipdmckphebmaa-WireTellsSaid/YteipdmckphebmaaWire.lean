/-
  What the functions of package wire (Put, Get, Text, Read, Word, Four) answer, each as a contract over this seat's translation: for every number and text, and for every slice that reads as bytes; nothing that was there is written.
-/
import Derived.Test.YteipdmckphebmaaProg
import Derived.Test.YteipdmckphebmaaWords
import Derived.WalkMore
namespace Go.Proofs.Yteipdmckphebmaa
open Go.RowKit WM
set_option linter.unusedVariables false

theorem infoByte : (Try.prog.info? 5).map (fun i => (i.zero, i.size, i.bytes)) = some (some (.int .u8 0), 1, 1) := by kernel_rfl

/-- string(v), as one letter that no walk looks into. -/
theorem cvt_ex : ∃ f : Value → World → Result Value, (∀ v w, (convert 24 9 v).run Try.prog w = f v w) ∧
    ∀ (w : World) (B : Nat) (A : Option Addr) (zs : List Int), Byt w B A zs → ∀ len cap : Nat, zs.length = len → f (.slice A len cap) w = .ok (.string (strOfNums zs)) w :=
  ⟨fun v w => (convert 24 9 v).run Try.prog w, fun _ _ => rfl, fun w B A zs h len cap hl => h.text hl 24 5 9 Try.underlying24 Try.underlying5 Try.underlying9⟩

/-! ### Word, Four -/
theorem made4 : madeCells #[.int .u8 0] 4 = #[.int .u8 0, .int .u8 0, .int .u8 0, .int .u8 0] := by simp [madeCells, Array.range]; rfl
theorem make4 (w : World) : (Instr.makeSlice 24 (.int .i64 4) (.int .i64 4)).run Try.prog w = .ok (.slice (some ⟨w.heap.size, 0, none⟩) 4 4) (w.alloc (.cells #[.int .u8 0, .int .u8 0, .int .u8 0, .int .u8 0] 5)) :=
  (run_make_row' (P := Try.prog) 24 5 (.int .u8 0) 1 Try.underlying24 infoByte rfl .i64 .i64 4 (by decide) (by decide) w).trans (by rw [made4])

def word (n : Int) : List Int := [n / 16777216, n / 65536 % 256, n / 256 % 256, n % 256]
theorem word_bytes {n : Int} (h0 : 0 ≤ n) (h1 : n ≤ 4294967295) : AllBytes (word n) := by
  intro z hz
  simp [word] at hz
  omega
def wordRow (n : Int) : Obj := .cells #[.int .u8 (n / 16777216), .int .u8 (n / 65536 % 256), .int .u8 (n / 256 % 256), .int .u8 (n % 256)] 5

set_option maxHeartbeats 400000 in
theorem word_any (n : Int) (w : World) (h0 : 0 ≤ n) (h1 : n ≤ 4294967295) :
    Calls Try.prog 23 #[.int .u32 n] w fun e w' => e = .returned (.slice (some ⟨w.heap.size, 0, none⟩) 4 4) ∧ w.alloc (wordRow n) = w' := by
  have mk := make4
  unfold wordRow
  go_enter Try.func23, Try.ntmps23
  go_wp2
  refine wp_loop_rounds 5 ?_
  rw [rounds_succ]; go_wp2
  rw [rounds_succ]; go_wp2
  rw [rounds_succ]; go_wp2
  rw [rounds_succ]; go_wp2
  rw [rounds_succ]; go_wp2
  go_ret
  exact ⟨rfl, rfl⟩
theorem wordRow_byt (w : World) (n : Int) : Byt (w.alloc (wordRow n)) (w.heap.size + 1) (some ⟨w.heap.size, 0, none⟩) (word n) := fun _ => by
  refine ⟨_, _, rfl, by omega, fun i hi => ?_⟩
  have hh : (w.alloc (wordRow n)).heap[w.heap.size]? = some (wordRow n) := heap_alloc_new w _
  rw [Nat.zero_add, cell_of_row _ _ i _ _ _ hh]
  simp [word] at hi
  match i, hi with
  | 0, _ => rfl
  | 1, _ => rfl
  | 2, _ => rfl
  | 3, _ => rfl

def unword (zs : List Int) : Int := ((zs.getD 0 0 * 256 + zs.getD 1 0) * 256 + zs.getD 2 0) * 256 + zs.getD 3 0
theorem four_no (A : Option Addr) (len cap : Nat) (w : World) (hl : len ≠ 4) (hm : len ≤ maxLen) :
    Calls Try.prog 17 #[.slice A len cap] w fun e w' => e = .returned (.tuple #[.int .u32 0, .bool false]) ∧ w = w' := by
  unfold maxLen at hm
  have h : ((len : Int) == 4) = false := by simp; omega
  have h' : ((len : Int) != 4) = true := by simp; omega
  clear hl
  go_enter Try.func17, Try.ntmps17
  go_wp2
  go_ret2
  exact ⟨rfl, rfl⟩
def or4 (x0 x1 x2 x3 : Int) : Int := bits .or .u32 (bits .or .u32 (bits .or .u32 (bits .or .u32 0 x0 * 256 % 4294967296) x1 * 256 % 4294967296) x2 * 256 % 4294967296) x3
theorem or4_eq {x0 x1 x2 x3 : Int} (r0 : 0 ≤ x0 ∧ x0 ≤ 255) (r1 : 0 ≤ x1 ∧ x1 ≤ 255) (r2 : 0 ≤ x2 ∧ x2 ≤ 255) (r3 : 0 ≤ x3 ∧ x3 ≤ 255) : or4 x0 x1 x2 x3 = ((x0 * 256 + x1) * 256 + x2) * 256 + x3 := by
  unfold or4
  have e0 := or_eight 0 x0 (by omega) (by omega) r0.1 (by omega)
  rw [show (0 : Int) * 256 = 0 by rfl, Int.zero_add] at e0
  rw [e0, show x0 * 256 % 4294967296 = x0 * 256 by omega, or_eight x0 x1 (by omega) (by omega) r1.1 (by omega), show (x0 * 256 + x1) * 256 % 4294967296 = (x0 * 256 + x1) * 256 by omega,
    or_eight (x0 * 256 + x1) x2 (by omega) (by omega) r2.1 (by omega), show ((x0 * 256 + x1) * 256 + x2) * 256 % 4294967296 = ((x0 * 256 + x1) * 256 + x2) * 256 by omega, or_eight _ x3 (by omega) (by omega) r3.1 (by omega)]
theorem four_at (b off cap : Nat) (x0 x1 x2 x3 : Int) (w : World) (r0 : 0 ≤ x0 ∧ x0 ≤ 255) (r1 : 0 ≤ x1 ∧ x1 ≤ 255) (r2 : 0 ≤ x2 ∧ x2 ≤ 255) (r3 : 0 ≤ x3 ∧ x3 ≤ 255)
    (c0 : w.cell? ⟨b, off, none⟩ = some (.int .u8 x0)) (c1 : w.cell? ⟨b, off + 1, none⟩ = some (.int .u8 x1)) (c2 : w.cell? ⟨b, off + 2, none⟩ = some (.int .u8 x2)) (c3 : w.cell? ⟨b, off + 3, none⟩ = some (.int .u8 x3)) :
    Calls Try.prog 17 #[.slice (some ⟨b, off, none⟩) 4 cap] w fun e w' => e = .returned (.tuple #[.int .u32 (or4 x0 x1 x2 x3), .bool true]) ∧ w = w' := by
  unfold or4
  go_enter Try.func17, Try.ntmps17
  go_wp2
  refine wp_loop_rounds 5 ?_
  rw [rounds_succ]; go_wp2
  rw [rounds_succ]; go_wp2
  rw [rounds_succ]; go_wp2
  rw [rounds_succ]; go_wp2
  rw [rounds_succ]; go_wp2
  go_ret2
  exact ⟨rfl, rfl⟩
theorem four_yes {B : Nat} (A : Option Addr) (cap : Nat) (zs : List Int) (w : World) (h : Byt w B A zs) (hl : zs.length = 4) (hb : AllBytes zs) :
    Calls Try.prog 17 #[.slice A 4 cap] w fun e w' => e = .returned (.tuple #[.int .u32 (unword zs), .bool true]) ∧ w = w' := by
  match zs, hl with
  | [x0, x1, x2, x3], _ =>
    obtain ⟨b, off, rfl, _, hc⟩ := h (by simp)
    have r0 := hb x0 (by simp)
    have r1 := hb x1 (by simp)
    have r2 := hb x2 (by simp)
    have r3 := hb x3 (by simp)
    have := four_at b off cap x0 x1 x2 x3 w r0 r1 r2 r3 (hc 0 (by simp)) (hc 1 (by simp)) (hc 2 (by simp)) (hc 3 (by simp))
    rw [or4_eq r0 r1 r2 r3] at this
    exact this

/-! ### Put -/
/-- What Put holds behind k rounds. -/
def PutInv (n : Int) (w : World) (k : Nat) (v : Value) (wr : World) : Prop :=
  ∃ L : List Int, (k ≤ 9 → L = encH k (n / 2 ^ (7 * (10 - k)))) ∧ (k = 10 → L = enc n) ∧ v = .slice (some ⟨w.heap.size, 0, none⟩) L.length 10 ∧
    wr.ownsRow w.heap.size 5 1 v L.length (L.map (Value.int .u8)) ∧ Below w.heap.size w wr
theorem pow_step (n : Int) (k : Nat) (hk : k ≤ 9) : n / 2 ^ (7 * (10 - k)) = n / 2 ^ (7 * (9 - k)) / 128 := by
  rw [show 7 * (10 - k) = 7 * (9 - k) + 7 by omega, Int.pow_add, Int.ediv_ediv_of_nonneg (Int.le_of_lt (Int.pow_pos (by omega)))]
  rfl
theorem put_skip {n : Int} {w wr : World} {k : Nat} {v : Value} (h : PutInv n w k v wr) (hk : k < 9) (hz : n / 2 ^ (7 * (9 - k)) = 0) : PutInv n w (k + 1) v wr := by
  obtain ⟨L, h1, _, h3, h4, h5⟩ := h
  refine ⟨L, fun _ => ?_, fun h => by omega, h3, h4, h5⟩
  rw [h1 (by omega), pow_step n k (by omega), show 10 - (k + 1) = 9 - k by omega, hz]
  simp [encH_zero]
theorem put_more {n : Int} {w wr w1 : World} {k : Nat} {L : List Int} {o : Obj} (hk : k < 9) (h1 : k ≤ 9 → L = encH k (n / 2 ^ (7 * (10 - k)))) (h5 : Below w.heap.size w wr) (hz : ¬ n / 2 ^ (7 * (9 - k)) = 0) {c : Int} (hc : c = n / 2 ^ (7 * (9 - k)) % 128 + 128)
    (ho : w1.ownsRow w.heap.size 5 1 (.slice (some ⟨w.heap.size, 0, none⟩) (L.length + 1) 10) (L.length + 1) (L.map (Value.int .u8) ++ [.int .u8 c])) (hg : (wr.alloc o).grownBy w1 (some w.heap.size)) :
    PutInv n w (k + 1) (.slice (some ⟨w.heap.size, 0, none⟩) (L.length + 1) 10) w1 := by
  refine ⟨L ++ [c], fun _ => ?_, fun h => by omega, by simp, by simpa using ho, ?_⟩
  · rw [encH, show 10 - (k + 1) = 9 - k by omega, if_neg hz, ← pow_step n k (by omega), ← h1 (by omega), hc]
  · exact (h5.alloc h5.size o).grown hg (by simpa using Nat.le_succ_of_le h5.size) (fun g hg => by simp at hg; omega)
theorem put_last {n : Int} {w wr w1 : World} {L : List Int} {o : Obj} (h1 : 9 ≤ 9 → L = encH 9 (n / 2 ^ (7 * (10 - 9)))) (h5 : Below w.heap.size w wr) {c : Int} (hc : c = n % 128)
    (ho : w1.ownsRow w.heap.size 5 1 (.slice (some ⟨w.heap.size, 0, none⟩) (L.length + 1) 10) (L.length + 1) (L.map (Value.int .u8) ++ [.int .u8 c])) (hg : (wr.alloc o).grownBy w1 (some w.heap.size)) :
    PutInv n w 10 (.slice (some ⟨w.heap.size, 0, none⟩) (L.length + 1) 10) w1 := by
  refine ⟨L ++ [c], fun h => by omega, fun _ => ?_, by simp, by simpa using ho, ?_⟩
  · rw [enc, hc, h1 (by omega)]; rfl
  · exact (h5.alloc h5.size o).grown hg (by simpa using Nat.le_succ_of_le h5.size) (fun g hg => by simp at hg; omega)
theorem one_cell {w : World} {o : Obj} {u : Value} {e : TypeId} (ho : o = .cells #[u] e) : ∀ j v, ([u] : List Value)[j]? = some v → (w.alloc o).cell? ((⟨w.heap.size, 0, none⟩ : Addr).add j) = some v := by
  subst ho
  intro j v hj
  match j, hj with
  | 0, hj =>
    simp at hj; subst hj
    have hh : (w.alloc (.cells #[u] e)).heap[w.heap.size]? = some (.cells #[u] e) := heap_alloc_new w _
    rw [Addr.add_lit, cell_of_row _ _ _ _ _ _ hh]
    rfl
set_option maxHeartbeats 1000000 in
theorem put_any (n : Int) (w : World) (h0 : 0 ≤ n) (h1 : n ≤ 18446744073709551615) :
    Calls Try.prog 19 #[.int .u64 n] w fun e w' => ∃ v, e = .returned v ∧ PutInv n w 10 v w' := by
  obtain ⟨i0, hi, hz0, hz1, hz2⟩ := info_parts infoByte
  go_enter Try.func19, Try.ntmps19
  go_wp2_with (at_make; refine wpList_make_own _ rfl _ _ 24 rfl w.heap.size 5 i0 (.int .u8 0) 1 Try.underlying24 hi hz0 hz1 .i64 .i64 10 10 rfl rfl rfl (by omega) (by decide) (Nat.le_refl _) ?_; intro w1 hown hgrow)
  go_loopw [3, 8] (fun v i wr => ∃ k : Nat, k ≤ 10 ∧ i = .int .i64 k ∧ PutInv n w k v wr) (fun _ i _ => 10 - (intOf i).toNat)
  case atStart => exact ⟨0, by omega, rfl, [], fun _ => rfl, fun h => by omega, rfl, hown, (Below.refl _ _).grown hgrow (Nat.le_refl _) (fun _ h => by cases h)⟩
  case round =>
    obtain ⟨k, hk, rfl, hinv⟩ := hrel
    clear hown hgrow
    by_cases hk9 : k < 10
    · by_cases hk8 : k < 9
      · by_cases hz : n / 2 ^ (7 * (9 - k)) = 0
        · have hzb : (n / 2 ^ (7 * (9 - k)) != 0) = false := by simp [hz]
          have H := Lib.hid (put_skip hinv hk8 hz)
          clear hinv hz
          go_wp2
          go_roundw
          case rel => exact ⟨k + 1, by omega, by go_num, H.out⟩
          case measure => simp [intOf]; omega
        · have hzb : (n / 2 ^ (7 * (9 - k)) != 0) = true := by simp [hz]
          have hz' := Lib.hid hz
          clear hz
          obtain ⟨L, a1, _, rfl, ho, a5⟩ := hinv
          have hlen : L.length ≤ k := by rw [a1 (by omega)]; exact encH_len _ _
          have A1 := Lib.hid a1
          have hc := Lib.hid (top_set (n / 2 ^ (7 * (9 - k)) % 256) (by omega) (by omega))
          clear a1
          go_wp2_with (at_builtin; refine wpList_append_fits _ rfl _ _ 24 rfl w.heap.size 5 i0 1 Try.underlying24 hi hz1 w.heap.size L.length 10 _ rfl (ho.alloc _) ⟨wr.heap.size, 0, none⟩ 1 1 [.int .u8 (bits BinOp.or IntKind.u8 (n / 2 ^ (7 * (9 - k)) % 256) 128)] rfl rfl (one_cell rfl) (by intro u hu; simp at hu; subst hu; rfl) (by omega) ?_; intro w2 ho2 hg2)
          go_roundw
          case rel => exact ⟨k + 1, by omega, by go_num, put_more hk8 A1.out a5 hz'.out (by rw [hc.out]; omega) ho2 hg2⟩
          case measure => simp [intOf]; omega
      · obtain rfl : k = 9 := by omega
        obtain ⟨L, a1, _, rfl, ho, a5⟩ := hinv
        have hlen : L.length ≤ 9 := by rw [a1 (by omega)]; exact encH_len _ _
        have A1 := Lib.hid a1
        have hc := Lib.hid (low_seven (n % 256) (by omega) (by omega))
        clear a1
        go_wp2_with (at_builtin; refine wpList_append_fits _ rfl _ _ 24 rfl w.heap.size 5 i0 1 Try.underlying24 hi hz1 w.heap.size L.length 10 _ rfl (ho.alloc _) ⟨wr.heap.size, 0, none⟩ 1 1 [.int .u8 (bits BinOp.andNot IntKind.u8 (n % 256) 128)] rfl rfl (one_cell rfl) (by intro u hu; simp at hu; subst hu; rfl) (by omega) ?_; intro w2 ho2 hg2)
        go_roundw
        case rel => exact ⟨10, by omega, rfl, put_last A1.out a5 (by rw [hc.out]; omega) ho2 hg2⟩
        case measure => simp [intOf]
    · obtain rfl : k = 10 := by omega
      have H := Lib.hid hinv
      clear hinv
      go_wp2
      go_ret
      exact ⟨_, rfl, H.out⟩

/-! ### Get -/
def getV : Option (Int × Nat) → Value
  | none => .tuple #[.int .u64 0, .int .i64 0, .bool false]
  | some (n, k) => .tuple #[.int .u64 n, .int .i64 k, .bool true]
/-- What Get has still to tell behind k rounds. -/
def GetAt (zs : List Int) (k : Nat) (acc : Int) : Prop := dec zs = (decR (10 - k) (k == 0) acc (zs.drop k)).map fun p => (p.1, p.2 + k)
theorem getAt_end {zs : List Int} {k : Nat} {acc : Int} (h : GetAt zs k acc) (hk : k = 10 ∨ k = zs.length) : dec zs = none := by
  rw [h]
  rcases hk with rfl | rfl
  · simp [decR]
  · rw [List.drop_length]
    cases 10 - zs.length <;> simp [decR]
theorem drop_at {zs : List Int} {k : Nat} (hk : k < zs.length) : zs.drop k = zs.getD k 0 :: zs.drop (k + 1) := by
  rw [List.drop_eq_getElem_cons hk]
  simp [List.getD, List.getElem?_eq_getElem hk]
theorem getAt_open {zs : List Int} {k : Nat} {acc : Int} (h : GetAt zs k acc) (h10 : k < 10) (hk : k < zs.length) :
    dec zs = (if (k == 0 && zs.getD k 0 == 128) = true then none else if 144115188075855871 < acc then none else
      if zs.getD k 0 < 128 then some (acc * 128 + zs.getD k 0 % 128, 1) else (decR (10 - (k + 1)) false (acc * 128 + zs.getD k 0 % 128) (zs.drop (k + 1))).map fun p => (p.1, p.2 + 1)).map fun p => (p.1, p.2 + k) := by
  rw [h, drop_at hk, show 10 - k = (10 - (k + 1)) + 1 by omega, decR]
theorem getAt_next {zs : List Int} {k : Nat} {acc : Int} (h : GetAt zs k acc) (h10 : k < 10) (hk : k < zs.length) (hf : ¬ (k = 0 ∧ zs.getD k 0 = 128)) (ha : acc ≤ 144115188075855871) (hz : 128 ≤ zs.getD k 0) :
    GetAt zs (k + 1) (acc * 128 + zs.getD k 0 % 128) := by
  have := getAt_open h h10 hk
  rw [if_neg (by simpa using hf), if_neg (by omega), if_neg (by omega)] at this
  unfold GetAt
  rw [this, Option.map_map]
  simp only [show (k + 1 == 0) = false by simp]
  congr 1
  funext p
  simp
  omega
theorem getAt_done {zs : List Int} {k : Nat} {acc : Int} (h : GetAt zs k acc) (h10 : k < 10) (hk : k < zs.length) (hf : ¬ (k = 0 ∧ zs.getD k 0 = 128)) (ha : acc ≤ 144115188075855871) (hz : zs.getD k 0 < 128) :
    dec zs = some (acc * 128 + zs.getD k 0 % 128, k + 1) := by
  have := getAt_open h h10 hk
  rw [if_neg (by simpa using hf), if_neg (by omega), if_pos hz] at this
  rw [this]
  simp
  omega
theorem getAt_none {zs : List Int} {k : Nat} {acc : Int} (h : GetAt zs k acc) (h10 : k < 10) (hk : k < zs.length) (hf : (k = 0 ∧ zs.getD k 0 = 128) ∨ 144115188075855871 < acc) : dec zs = none := by
  have := getAt_open h h10 hk
  rw [this]
  by_cases h1 : (k == 0 && zs.getD k 0 == 128) = true
  · rw [if_pos h1]; rfl
  · rw [if_neg h1, if_pos]
    · rfl
    · rcases hf with hf | hf
      · simp at h1; exact absurd hf.2 (by simpa using h1 hf.1)
      · exact hf
theorem ret3 {a b c a' b' c' : Value} (h1 : a = a') (h2 : b = b') (h3 : c = c') : Ending.returned (.tuple #[a, b, c]) = .returned (.tuple #[a', b', c']) := by rw [h1, h2, h3]
theorem get_val {acc z : Int} (h0 : 0 ≤ acc) (h1 : acc ≤ 144115188075855871) (hz : 0 ≤ z ∧ z ≤ 255) : bits BinOp.or IntKind.u64 (acc * 128) (IntKind.u64.wrap (bits BinOp.andNot IntKind.u8 z 128)) = acc * 128 + z % 128 := by
  rw [low_seven z hz.1 hz.2, IntWalk.u64_in _ (by omega), or_seven acc (z % 128) h0 h1 (by omega) (by omega)]
set_option maxHeartbeats 1000000 in
theorem get_any {B : Nat} (A : Option Addr) (len cap : Nat) (zs : List Int) (w : World) (h : Byt w B A zs) (hl : zs.length = len) (hb : AllBytes zs) (hm : len ≤ maxLen) :
    Calls Try.prog 13 #[.slice A len cap] w fun e w' => e = .returned (getV (dec zs)) ∧ w = w' := by
  unfold maxLen at hm
  have hr : ∀ j, 0 ≤ zs.getD j 0 ∧ zs.getD j 0 ≤ 255 := fun j => by
    rcases Nat.lt_or_ge j zs.length with h1 | h1
    · have := hb _ (List.getElem_mem h1)
      simpa [List.getD, List.getElem?_eq_getElem h1] using this
    · simp [List.getD, List.getElem?_eq_none h1]
  have HL := Lib.hid hl
  have HR := Lib.hid hr
  have HB := Lib.hid h
  have HS := Lib.hid (rfl : getV none = getV none)
  clear hl hr hb h
  go_enter Try.func13, Try.ntmps13
  go_wp2
  go_step3
  go_wp2
  go_step3
  go_wp2
  go_loop [5, 7] (fun n i => ∃ (k : Nat) (acc : Int), k ≤ 10 ∧ k ≤ len ∧ i = .int .i64 k ∧ n = .int .u64 acc ∧ 0 ≤ acc ∧ acc ≤ 18446744073709551615 ∧ GetAt zs k acc) (fun _ i => 10 - (intOf i).toNat)
  case atStart => exact ⟨0, 0, by omega, by omega, rfl, rfl, by omega, by omega, by unfold GetAt; simp; rfl⟩
  case round =>
    obtain ⟨k, acc, hk, hkl, rfl, rfl, ha0, ha1, hg⟩ := hrel
    by_cases hk9 : k < 10
    · by_cases hlt : k < len
      · have hlt' : k < zs.length := by rw [HL.out]; exact hlt
        obtain ⟨b, off, rfl, _, hcell⟩ := HB.out (fun e => by rw [e] at hlt'; simp at hlt')
        have hc := hcell k hlt'
        have hz := HR.out k
        by_cases hf : k = 0 ∧ zs.getD k 0 = 128
        · have hd := Lib.hid (getAt_none hg hk9 hlt' (.inl hf))
          obtain ⟨rfl, hf⟩ := hf
          rw [hf, Nat.add_zero] at hc
          clear hcell hg hlt' hf hz
          go_wp2
          go_ret3
          exact ⟨by rw [hd.out]; rfl, rfl⟩
        · have hne : k = 0 → (zs.getD k 0 == 128) = false := fun e => by simp; intro h; exact hf ⟨e, by simpa using h⟩
          by_cases hac : acc ≤ 144115188075855871
          · generalize hzz : zs.getD k 0 = z at *
            by_cases h128 : z < 128
            · have hd := Lib.hid (by have := getAt_done hg hk9 hlt' (by rw [hzz]; exact hf) hac (by rw [hzz]; exact h128); rwa [hzz] at this : dec zs = some (acc * 128 + z % 128, k + 1))
              have HZ := Lib.hid hzz
              clear hcell hg hlt' hf hzz
              by_cases hk0 : k = 0
              · subst hk0
                have hne' := hne rfl
                rw [Nat.add_zero] at hc
                clear hne
                go_wp2
                go_ret3
                refine ⟨?_, rfl⟩
                rw [hd.out]
                exact ret3 (congrArg _ (get_val ha0 hac hz)) rfl rfl
              · clear hne
                go_wp2
                go_ret3
                refine ⟨?_, rfl⟩
                rw [hd.out]
                exact ret3 (congrArg _ (get_val ha0 hac hz)) rfl rfl
            · have hd := Lib.hid (by have := getAt_next hg hk9 hlt' (by rw [hzz]; exact hf) hac (by rw [hzz]; omega); rwa [hzz] at this : GetAt zs (k + 1) (acc * 128 + z % 128))
              have HZ := Lib.hid hzz
              clear hcell hg hlt' hf hzz
              by_cases hk0 : k = 0
              · subst hk0
                have hne' := hne rfl
                rw [Nat.add_zero] at hc
                clear hne
                go_wp2
                go_round
                case rel => exact ⟨0 + 1, _, by omega, by omega, rfl, congrArg _ (get_val ha0 hac hz), by omega, by omega, hd.out⟩
                case measure => simp [intOf]
              · clear hne
                go_wp2
                go_round
                case rel => exact ⟨k + 1, _, by omega, by omega, by go_num, congrArg _ (get_val ha0 hac hz), by omega, by omega, hd.out⟩
                case measure => simp [intOf]; omega
          · have hd := Lib.hid (getAt_none hg hk9 hlt' (.inr (by omega)))
            have hac' : 144115188075855871 < acc := by omega
            generalize zs.getD k 0 = z at *
            clear hcell hg hlt' hf hac
            by_cases hk0 : k = 0
            · subst hk0
              have hne' := hne rfl
              rw [Nat.add_zero] at hc
              clear hne
              go_wp2
              go_ret3
              exact ⟨by rw [hd.out]; rfl, rfl⟩
            · clear hne
              go_wp2
              go_ret3
              exact ⟨by rw [hd.out]; rfl, rfl⟩
      · obtain rfl : k = len := by omega
        have hd := Lib.hid (getAt_end hg (.inr HL.out.symm))
        clear hg
        go_wp2
        go_ret3
        exact ⟨by rw [hd.out]; rfl, rfl⟩
    · have hd := Lib.hid (getAt_end hg (.inl (by omega)))
      clear hg
      go_wp2
      go_ret3
      exact ⟨by rw [hd.out]; rfl, rfl⟩

/-! ### What a call gives: bytes of its own -/
def Gives (w : World) (zs : List Int) (e : Ending) (w' : World) : Prop :=
  ∃ A n c, e = .returned (.slice A n c) ∧ zs.length = n ∧ n ≤ c ∧ c ≤ maxLen ∧ w'.ownsRow w.heap.size 5 1 (.slice A n c) n (zs.map (Value.int .u8)) ∧ Below w.heap.size w w'
theorem gives_own {w w' : World} {v : Value} {n : Nat} {zs : List Int} (ho : w'.ownsRow w.heap.size 5 1 v n (zs.map (Value.int .u8))) (hb : Below w.heap.size w w') : Gives w zs (.returned v) w' := by
  have hl : zs.length = n := by simpa using ho.1
  rcases ho.2 with ⟨rfl, rfl⟩ | ⟨g, cap, cur, rfl, _, _, hnc, hcm, _⟩
  · exact ⟨none, 0, 0, rfl, hl, by omega, by decide, ho, hb⟩
  · exact ⟨_, n, cap, rfl, hl, hnc, hcm, ho, hb⟩
theorem put_gives (n : Int) (w : World) (h0 : 0 ≤ n) (h1 : n ≤ 18446744073709551615) : Calls Try.prog 19 #[.int .u64 n] w (Gives w (enc n)) := by
  refine (put_any n w h0 h1).mono ?_
  rintro e w' ⟨v, rfl, L, _, hL, rfl, ho, hb⟩
  have hLe := hL rfl
  subst hLe
  exact ⟨_, _, _, rfl, rfl, (enc_len n).2, by decide, ho, hb⟩

/-! ### Text, Read -/
def nums (s : ByteArray) : List Int := s.data.toList.map fun b => (b.toNat : Int)
theorem nums_len (s : ByteArray) : (nums s).length = s.size := by rw [nums, List.length_map, Array.length_toList]; rfl
theorem nums_cells (s : ByteArray) : (nums s).map (Value.int .u8) = Lib.strCells s := by simp [nums, Lib.strCells]
theorem nums_bytes (s : ByteArray) : AllBytes (nums s) := by
  intro z hz
  simp only [nums, List.mem_map] at hz
  obtain ⟨b, _, rfl⟩ := hz
  have := b.toNat_lt
  omega
theorem str_nums (s : ByteArray) : strOfNums (nums s) = s := by
  unfold strOfNums nums
  rw [List.map_map]
  have : ((fun n : Int => UInt8.ofNat n.toNat) ∘ fun b : UInt8 => (b.toNat : Int)) = id := by funext b; simp
  rw [this, List.map_id]
def txt (s : ByteArray) : List Int := enc s.size ++ nums s
theorem txt_bytes (s : ByteArray) : AllBytes (txt s) := by
  intro z hz
  rcases List.mem_append.1 hz with h | h
  · exact enc_bytes _ z h
  · exact nums_bytes _ z h
set_option maxHeartbeats 400000 in
theorem text_gives (s : ByteArray) (w : World) (hs : s.size ≤ 140737488355000) : Calls Try.prog 21 #[.string s] w (Gives w (txt s)) := by
  obtain ⟨i0, hi, hz0, hz1, hz2⟩ := info_parts infoByte
  have hel := enc_len s.size
  go_enter Try.func21, Try.ntmps21
  go_wp2_with (first
    | (go_at_call 19; refine (put_gives _ _ (by omega) (by omega)).mono ?_; rintro e w1 ⟨A, n, c, rfl, hn, hnc, hcm, hown, hbel⟩; have HN := Lib.hid hn; clear hn)
    | (at_builtin; refine Lib.wpList_append_own_string _ rfl _ _ 24 9 rfl w.heap.size 5 i0 Try.underlying24 Try.underlying9 hi hz0 hz1 hz2 (.slice A n c) n _ rfl hown s rfl ?h1 ?h2 hbel.size ?_; rotate_right; intro v2 w2 ho2 hg2 _))
  case h1 => have := HN.out; unfold maxLen; omega
  case h2 => have := HN.out; omega
  go_ret
  refine gives_own (n := n + s.size) ?_ (hbel.grown hg2 hbel.size (fun g hg => own_base hown hg))
  rw [txt, List.map_append, nums_cells]
  exact ho2
theorem read_none {B : Nat} (A : Option Addr) (len cap : Nat) (zs : List Int) (most : Int) (w : World) (h : Byt w B A zs) (hl : zs.length = len) (hb : AllBytes zs) (hm : len ≤ maxLen) (hd : dec zs = none) :
    Calls Try.prog 15 #[.slice A len cap, .int .i64 most] w fun e w' => e = .returned (.tuple #[.string ⟨#[]⟩, .int .i64 0, .bool false]) ∧ w = w' := by
  have hg := get_any A len cap zs w h hl hb hm
  rw [hd] at hg
  simp only [getV] at hg
  have HG := Lib.hid hg
  clear hg hd hl hb h
  simp only [maxLen] at hm
  go_enter Try.func15, Try.ntmps15
  go_wp2_with (go_at_call 13; refine HG.out.mono ?_; rintro e w1 ⟨rfl, rfl⟩)
  go_ret3
  exact ⟨rfl, rfl⟩
theorem read_short {B : Nat} (A : Option Addr) (len cap : Nat) (zs : List Int) (most : Int) (w : World) (n : Int) (k : Nat) (h : Byt w B A zs) (hl : zs.length = len) (hb : AllBytes zs) (hm : len ≤ maxLen) (hd : dec zs = some (n, k)) (hn : (len : Int) - k < n) :
    Calls Try.prog 15 #[.slice A len cap, .int .i64 most] w fun e w' => e = .returned (.tuple #[.string ⟨#[]⟩, .int .i64 0, .bool false]) ∧ w = w' := by
  have hg := get_any A len cap zs w h hl hb hm
  rw [hd] at hg
  simp only [getV] at hg
  have HG := Lib.hid hg
  have hk := dec_some hb hd
  obtain ⟨k1, k2, _, k4, k5⟩ := hk
  rw [hl] at k2
  clear hg hd hl hb h
  simp only [maxLen] at hm
  go_enter Try.func15, Try.ntmps15
  go_wp2_with (go_at_call 13; refine HG.out.mono ?_; rintro e w1 ⟨rfl, rfl⟩)
  go_ret3
  exact ⟨rfl, rfl⟩
theorem read_long {B : Nat} (A : Option Addr) (len cap : Nat) (zs : List Int) (most : Int) (w : World) (n : Int) (k : Nat) (h : Byt w B A zs) (hl : zs.length = len) (hb : AllBytes zs) (hm : len ≤ maxLen) (hd : dec zs = some (n, k)) (hn : n ≤ (len : Int) - k) (hmo : most < n) :
    Calls Try.prog 15 #[.slice A len cap, .int .i64 most] w fun e w' => e = .returned (.tuple #[.string ⟨#[]⟩, .int .i64 0, .bool false]) ∧ w = w' := by
  have hg := get_any A len cap zs w h hl hb hm
  rw [hd] at hg
  simp only [getV] at hg
  have HG := Lib.hid hg
  have hk := dec_some hb hd
  obtain ⟨k1, k2, _, k4, k5⟩ := hk
  rw [hl] at k2
  clear hg hd hl hb h
  simp only [maxLen] at hm
  go_enter Try.func15, Try.ntmps15
  go_wp2_with (go_at_call 13; refine HG.out.mono ?_; rintro e w1 ⟨rfl, rfl⟩)
  go_ret3
  exact ⟨rfl, rfl⟩
theorem read_yes {B : Nat} (A : Option Addr) (len cap : Nat) (zs : List Int) (most : Int) (w : World) (n : Nat) (k : Nat) (h : Byt w B A zs) (hl : zs.length = len) (hb : AllBytes zs) (hlc : len ≤ cap) (hm : cap ≤ maxLen) (hd : dec zs = some ((n : Int), k)) (hn : k + n ≤ len) (hmo : (n : Int) ≤ most) :
    Calls Try.prog 15 #[.slice A len cap, .int .i64 most] w fun e w' => e = .returned (.tuple #[.string (strOfNums ((zs.drop k).take n)), .int .i64 (k + n : Nat), .bool true]) ∧ w = w' := by
  have hg := get_any A len cap zs w h hl hb (by omega)
  rw [hd] at hg
  simp only [getV] at hg
  have HG := Lib.hid hg
  have hk := dec_some hb hd
  obtain ⟨k1, k2, _, k4, k5⟩ := hk
  rw [hl] at k2
  have ht := (h.drop (k := k) (cap := cap) (by omega)).take n
  have hlen : ((zs.drop k).take n).length = n := by rw [List.length_take, List.length_drop]; omega
  generalize (zs.drop k).take n = S at ht hlen ⊢
  clear hg hd hb h hl
  simp only [maxLen] at hm
  by_cases hck : cap = k
  · rw [if_pos hck] at ht
    have tA := ht.text (P := Try.prog) (cap := 0) hlen 24 5 9 Try.underlying24 Try.underlying5 Try.underlying9
    subst hck
    clear ht hlen
    go_enter Try.func15, Try.ntmps15
    go_wp2_with (go_at_call 13; refine HG.out.mono ?_; rintro e w1 ⟨rfl, rfl⟩)
    go_ret3
    exact ⟨ret3 rfl (by go_num) rfl, rfl⟩
  · rw [if_neg hck] at ht
    have tA := ht.text (P := Try.prog) (cap := cap - k) hlen 24 5 9 Try.underlying24 Try.underlying5 Try.underlying9
    clear ht hlen
    go_enter Try.func15, Try.ntmps15
    go_wp2_with (go_at_call 13; refine HG.out.mono ?_; rintro e w1 ⟨rfl, rfl⟩)
    go_ret3
    exact ⟨ret3 rfl (by go_num) rfl, rfl⟩

/-! ### Read, in one -/
def rd (zs : List Int) (most : Int) : Option (List Int × Nat) :=
  match dec zs with
  | none => none
  | some (n, k) => if (zs.length : Int) - k < n then none else if most < n then none else some ((zs.drop k).take n.toNat, k + n.toNat)
def readV : Option (List Int × Nat) → Value
  | none => .tuple #[.string ⟨#[]⟩, .int .i64 0, .bool false]
  | some (t, k) => .tuple #[.string (strOfNums t), .int .i64 k, .bool true]
theorem read_any {B : Nat} (A : Option Addr) (len cap : Nat) (zs : List Int) (most : Int) (w : World) (h : Byt w B A zs) (hl : zs.length = len) (hb : AllBytes zs) (hlc : len ≤ cap) (hm : cap ≤ maxLen) :
    Calls Try.prog 15 #[.slice A len cap, .int .i64 most] w fun e w' => e = .returned (readV (rd zs most)) ∧ w = w' := by
  unfold rd
  match hd : dec zs with
  | none => exact read_none A len cap zs most w h hl hb (by omega) hd
  | some (n, k) =>
    obtain ⟨k1, k2, _, k4, k5⟩ := dec_some hb hd
    by_cases h1 : (zs.length : Int) - k < n
    · simp only [if_pos h1]
      exact read_short A len cap zs most w n k h hl hb (by omega) hd (by omega)
    · simp only [if_neg h1]
      by_cases h2 : most < n
      · simp only [if_pos h2]
        exact read_long A len cap zs most w n k h hl hb (by omega) hd (by omega) h2
      · simp only [if_neg h2]
        obtain ⟨n, rfl⟩ : ∃ m : Nat, n = m := ⟨n.toNat, by omega⟩
        exact read_yes A len cap zs most w n k h hl hb hlc hm hd (by omega) (by omega)
theorem rd_txt (s : ByteArray) (t : List Int) (most : Int) (hs : s.size ≤ 140737488355000) : rd (txt s ++ t) most = if (s.size : Int) ≤ most then some (nums s, (txt s).length) else none := by
  have hn := nums_len s
  unfold rd txt
  rw [List.append_assoc, dec_enc _ _ (by omega) (by omega)]
  simp only [List.length_append, hn]
  rw [if_neg (by omega)]
  by_cases h : (s.size : Int) ≤ most
  · rw [if_neg (by omega), if_pos h, List.drop_left, Int.toNat_natCast, List.take_left' hn]
  · rw [if_pos (by omega), if_neg h]
theorem nums_str {t : List Int} (h : AllBytes t) : nums (strOfNums t) = t := by
  unfold nums
  rw [strOfNums_data, List.map_map]
  conv => rhs; rw [← List.map_id t]
  refine List.map_congr_left fun z hz => ?_
  have := h z hz
  simp [UInt8.toNat_ofNat']
  omega
theorem rd_some {zs : List Int} {most : Int} {t : List Int} {k : Nat} (hb : AllBytes zs) (h : rd zs most = some (t, k)) : k ≤ zs.length ∧ (t.length : Int) ≤ most ∧ txt (strOfNums t) = zs.take k ∧ AllBytes t ∧ 1 ≤ k := by
  unfold rd at h
  match hd : dec zs with
  | none => rw [hd] at h; cases h
  | some (n, j) =>
    rw [hd] at h
    obtain ⟨k1, k2, k3, k4, k5⟩ := dec_some hb hd
    by_cases h1 : (zs.length : Int) - j < n
    · simp only [if_pos h1] at h; cases h
    · simp only [if_neg h1] at h
      by_cases h2 : most < n
      · simp only [if_pos h2] at h; cases h
      · simp only [if_neg h2, Option.some.injEq, Prod.mk.injEq] at h
        obtain ⟨rfl, rfl⟩ := h
        have hl : ((zs.drop j).take n.toNat).length = n.toNat := by rw [List.length_take, List.length_drop]; omega
        have hbt : AllBytes ((zs.drop j).take n.toNat) := fun z hz => hb z (List.mem_of_mem_drop (List.mem_of_mem_take hz))
        refine ⟨by omega, by omega, ?_, hbt, by omega⟩
        rw [txt, nums_str hbt, strOfNums_size, hl, show ((n.toNat : Nat) : Int) = n by omega, k3, List.take_add]
/-- Get and Read of bytes that are the call's own. -/
theorem get_own {w : World} {base : Nat} {v : Value} {n : Nat} {zs : List Int} (ho : w.ownsRow base 5 1 v n (zs.map (Value.int .u8))) (hb : AllBytes zs) {x : Option (Int × Nat)} (hx : dec zs = x) : ∃ A c, v = .slice A n c ∧ n ≤ c ∧ c ≤ maxLen ∧
    Hid (Calls Try.prog 13 #[.slice A n c] w fun e w' => e = .returned (getV x) ∧ w = w') := by
  subst hx
  have hn : zs.length = n := by simpa using ho.1
  rcases ho.2 with ⟨rfl, rfl⟩ | ⟨g, cap, cur, rfl, _, _, h1, h2, _⟩
  · exact ⟨_, _, rfl, by omega, by decide, Lib.hid (get_any _ 0 0 zs w (Byt.own ho) hn hb (by decide))⟩
  · exact ⟨_, _, rfl, h1, h2, Lib.hid (get_any _ n cap zs w (Byt.own ho) hn hb (by omega))⟩
theorem get_own_yes {w : World} {base : Nat} {v : Value} {n : Nat} {zs : List Int} (ho : w.ownsRow base 5 1 v n (zs.map (Value.int .u8))) (hb : AllBytes zs) {y : Int} {u : Nat} (hx : dec zs = some (y, u)) : ∃ A c, v = .slice A n c ∧ n ≤ c ∧ c ≤ maxLen ∧
    Hid (Calls Try.prog 13 #[.slice A n c] w fun e w' => e = .returned (.tuple #[.int .u64 y, .int .i64 u, .bool true]) ∧ w = w') := get_own ho hb hx
theorem read_own {w : World} {base : Nat} {v : Value} {n : Nat} {zs : List Int} (ho : w.ownsRow base 5 1 v n (zs.map (Value.int .u8))) (hb : AllBytes zs) (most : Int) {x : Option (List Int × Nat)} (hx : rd zs most = x) : ∃ A c, v = .slice A n c ∧ n ≤ c ∧ c ≤ maxLen ∧
    Hid (Calls Try.prog 15 #[.slice A n c, .int .i64 most] w fun e w' => e = .returned (readV x) ∧ w = w') := by
  subst hx
  have hn : zs.length = n := by simpa using ho.1
  rcases ho.2 with ⟨rfl, rfl⟩ | ⟨g, cap, cur, rfl, _, _, h1, h2, _⟩
  · exact ⟨_, _, rfl, by omega, by decide, Lib.hid (read_any _ 0 0 zs most w (Byt.own ho) hn hb (by omega) (by decide))⟩
  · exact ⟨_, _, rfl, h1, h2, Lib.hid (read_any _ n cap zs most w (Byt.own ho) hn hb h1 h2)⟩
theorem all_append {xs ys : List Int} (h1 : AllBytes xs) (h2 : AllBytes ys) : AllBytes (xs ++ ys) := fun z hz => by
  rcases List.mem_append.1 hz with h | h
  · exact h1 z h
  · exact h2 z h
theorem row_nil {k : IntKind} {w : World} {a : Option Addr} {len cap : Nat} {zs : List Int} (h : IsRow k w a len cap zs) (ha : a = none) : cap = 0 := by
  rcases h with ⟨_, _, h, _⟩ | ⟨x, h, _⟩
  · exact h
  · rw [h] at ha; cases ha
theorem readV_cases (zs : List Int) (most : Int) : (rd zs most = none ∧ readV (rd zs most) = .tuple #[.string ⟨#[]⟩, .int .i64 0, .bool false]) ∨ ∃ t k, rd zs most = some (t, k) ∧ readV (rd zs most) = .tuple #[.string (strOfNums t), .int .i64 k, .bool true] := by
  match h : rd zs most with
  | none => exact .inl ⟨rfl, rfl⟩
  | some (t, k) => exact .inr ⟨t, k, rfl, rfl⟩
end Go.Proofs.Yteipdmckphebmaa
