/-
  Digests, as numbers and lists alone: turned words, the words of a block, the rounds, the blocks, the message, the digest. No program is named here.
-/
import Derived.WalkKit
import Derived.Laws.BitsAllLaws
import Derived.Laws.ShiftsVarLaws
import Derived.Test.YtonbhcbkelmhgaaDoorWireMath
namespace Go.Proofs.YtonbhcbkelmhgaaDoor.SH
open Go.Proofs.YtonbhcbkelmhgaaDoor.WM
set_option linter.unusedVariables false

def rotr (x n : Nat) : Nat := (x / 2 ^ n) ||| (x * 2 ^ (32 - n) % 4294967296)
theorem rotr_lt {x : Nat} (n : Nat) (h : x < 4294967296) : rotr x n < 4294967296 :=
  Nat.or_lt_two_pow (n := 32) (Nat.lt_of_le_of_lt (Nat.div_le_self _ _) h) (Nat.mod_lt _ (by decide))
theorem xor_lt {x y : Nat} (h : x < 4294967296) (h' : y < 4294967296) : x ^^^ y < 4294967296 := Nat.xor_lt_two_pow (n := 32) h h'
theorem or_lt {x y : Nat} (h : x < 4294967296) (h' : y < 4294967296) : x ||| y < 4294967296 := Nat.or_lt_two_pow (n := 32) h h'
theorem and_lt {x y : Nat} (h : x < 4294967296) : x &&& y < 4294967296 := Nat.lt_of_le_of_lt Nat.and_le_left h
def add (x y : Nat) : Nat := (x + y) % 4294967296
theorem add_lt (x y : Nat) : add x y < 4294967296 := Nat.mod_lt _ (by decide)

def S1 (e : Nat) : Nat := rotr e 6 ^^^ rotr e 11 ^^^ rotr e 25
def S0 (a : Nat) : Nat := rotr a 2 ^^^ rotr a 13 ^^^ rotr a 22
def s0 (x : Nat) : Nat := rotr x 7 ^^^ rotr x 18 ^^^ x / 8
def s1 (x : Nat) : Nat := rotr x 17 ^^^ rotr x 19 ^^^ x / 1024
def ch (e f g : Nat) : Nat := (e &&& f) ||| ((4294967295 - e) &&& g)
def maj (a b c : Nat) : Nat := (a &&& b) ||| (a &&& c) ||| (b &&& c)
theorem S1_lt {e : Nat} (h : e < 4294967296) : S1 e < 4294967296 := xor_lt (xor_lt (rotr_lt _ h) (rotr_lt _ h)) (rotr_lt _ h)
theorem S0_lt {e : Nat} (h : e < 4294967296) : S0 e < 4294967296 := xor_lt (xor_lt (rotr_lt _ h) (rotr_lt _ h)) (rotr_lt _ h)
theorem s0_lt {e : Nat} (h : e < 4294967296) : s0 e < 4294967296 := xor_lt (xor_lt (rotr_lt _ h) (rotr_lt _ h)) (by omega)
theorem s1_lt {e : Nat} (h : e < 4294967296) : s1 e < 4294967296 := xor_lt (xor_lt (rotr_lt _ h) (rotr_lt _ h)) (by omega)
theorem ch_lt {e f g : Nat} (h : e < 4294967296) : ch e f g < 4294967296 := or_lt (and_lt h) (and_lt (by omega))
theorem maj_lt {a b c : Nat} (h : a < 4294967296) (h' : b < 4294967296) : maj a b c < 4294967296 := or_lt (or_lt (and_lt h) (and_lt h)) (and_lt h')

/-- Eight words. -/
structure St where
  (a b c d e f g h : Nat)
def St.ok (s : St) : Prop := s.a < 4294967296 ∧ s.b < 4294967296 ∧ s.c < 4294967296 ∧ s.d < 4294967296 ∧ s.e < 4294967296 ∧ s.f < 4294967296 ∧ s.g < 4294967296 ∧ s.h < 4294967296
def St.list (s : St) : List Nat := [s.a, s.b, s.c, s.d, s.e, s.f, s.g, s.h]
def tt (s : St) (k w : Nat) : Nat := add (add (add (add s.h (S1 s.e)) (ch s.e s.f s.g)) k) w
def uu (s : St) : Nat := add (S0 s.a) (maj s.a s.b s.c)
def rnd (s : St) (k w : Nat) : St := ⟨add (tt s k w) (uu s), s.a, s.b, s.c, add s.d (tt s k w), s.e, s.f, s.g⟩
theorem rnd_ok {s : St} (k w : Nat) (h : s.ok) : (rnd s k w).ok := ⟨add_lt _ _, h.1, h.2.1, h.2.2.1, add_lt _ _, h.2.2.2.2.1, h.2.2.2.2.2.1, h.2.2.2.2.2.2.1⟩
def K : List Nat := [1116352408, 1899447441, 3049323471, 3921009573, 961987163, 1508970993, 2453635748, 2870763221, 3624381080, 310598401, 607225278, 1426881987, 1925078388, 2162078206, 2614888103, 3248222580, 3835390401, 4022224774, 264347078, 604807628, 770255983, 1249150122, 1555081692, 1996064986, 2554220882, 2821834349, 2952996808, 3210313671, 3336571891, 3584528711, 113926993, 338241895, 666307205, 773529912, 1294757372, 1396182291, 1695183700, 1986661051, 2177026350, 2456956037, 2730485921, 2820302411, 3259730800, 3345764771, 3516065817, 3600352804, 4094571909, 275423344, 430227734, 506948616, 659060556, 883997877, 958139571, 1322822218, 1537002063, 1747873779, 1955562222, 2024104815, 2227730452, 2361852424, 2428436474, 2756734187, 3204031479, 3329325298]
def H0 : St := ⟨1779033703, 3144134277, 1013904242, 2773480762, 1359893119, 2600822924, 528734635, 1541459225⟩
theorem H0_ok : H0.ok := by unfold St.ok H0; decide
theorem K_len : K.length = 64 := by decide
theorem K_lt (i : Nat) : K.getD i 0 < 4294967296 := by
  rcases Nat.lt_or_ge i 64 with h | h
  · have : ∀ j, j < 64 → K.getD j 0 < 4294967296 := by decide
    exact this i h
  · rw [List.getD, List.getElem?_eq_none (by rw [K_len]; exact h)]; decide
/-- The state behind n rounds. -/
def rnds (s : St) (W : List Nat) : Nat → St
  | 0 => s
  | n + 1 => rnd (rnds s W n) (K.getD n 0) (W.getD n 0)
theorem rnds_ok {s : St} (W : List Nat) (h : s.ok) : ∀ n, (rnds s W n).ok
  | 0 => h
  | n + 1 => rnd_ok _ _ (rnds_ok W h n)
def St.plus (s t : St) : St := ⟨add s.a t.a, add s.b t.b, add s.c t.c, add s.d t.d, add s.e t.e, add s.f t.f, add s.g t.g, add s.h t.h⟩
theorem plus_ok (s t : St) : (s.plus t).ok := ⟨add_lt _ _, add_lt _ _, add_lt _ _, add_lt _ _, add_lt _ _, add_lt _ _, add_lt _ _, add_lt _ _⟩

/-- The first k of eight words are added. -/
def mix (s r : St) (k : Nat) : List Nat := (List.range 8).map fun j => if j < k then add (s.list.getD j 0) (r.list.getD j 0) else s.list.getD j 0
theorem mix_zero (s r : St) : mix s r 0 = s.list := rfl
theorem mix_all (s r : St) : mix s r 8 = (s.plus r).list := rfl
theorem mix_len (s r : St) (k : Nat) : (mix s r k).length = 8 := by simp [mix]
theorem mix_next (s r : St) {k : Nat} (hk : k < 8) : (mix s r k).set k (add (s.list.getD k 0) (r.list.getD k 0)) = mix s r (k + 1) := by
  match k, hk with
  | 0, _ => rfl
  | 1, _ => rfl
  | 2, _ => rfl
  | 3, _ => rfl
  | 4, _ => rfl
  | 5, _ => rfl
  | 6, _ => rfl
  | 7, _ => rfl
theorem mix_get (s r : St) {k : Nat} (hk : k < 8) : (mix s r k).getD k 0 = s.list.getD k 0 := by
  match k, hk with
  | 0, _ => rfl
  | 1, _ => rfl
  | 2, _ => rfl
  | 3, _ => rfl
  | 4, _ => rfl
  | 5, _ => rfl
  | 6, _ => rfl
  | 7, _ => rfl

/-! ### A block's words -/
def z (zs : List Int) (i : Nat) : Nat := (zs.getD i 0).toNat
def be4 (zs : List Int) (j : Nat) : Nat := 16777216 * z zs (4 * j) + 65536 * z zs (4 * j + 1) + 256 * z zs (4 * j + 2) + z zs (4 * j + 3)
/-- The first n words of a block. -/
def ws (zs : List Int) : Nat → List Nat
  | 0 => []
  | n + 1 => ws zs n ++ [if n < 16 then be4 zs n else add (add (add ((ws zs n).getD (n - 16) 0) (s0 ((ws zs n).getD (n - 15) 0))) ((ws zs n).getD (n - 7) 0)) (s1 ((ws zs n).getD (n - 2) 0))]
theorem ws_len (zs : List Int) : ∀ n, (ws zs n).length = n
  | 0 => rfl
  | n + 1 => by rw [ws, List.length_append, ws_len zs n]; rfl
def wnext (l : List Nat) (n : Nat) : Nat := add (add (add (l.getD (n - 16) 0) (s0 (l.getD (n - 15) 0))) (l.getD (n - 7) 0)) (s1 (l.getD (n - 2) 0))
theorem ws_small (zs : List Int) {n : Nat} (h : n < 16) : ws zs (n + 1) = ws zs n ++ [be4 zs n] := by rw [ws, if_pos h]
theorem ws_great (zs : List Int) {n : Nat} (h : 16 ≤ n) : ws zs (n + 1) = ws zs n ++ [wnext (ws zs n) n] := by rw [ws, if_neg (by omega)]; rfl
theorem z_lt {zs : List Int} (hb : AllBytes zs) (i : Nat) : z zs i < 256 := by
  unfold z
  rcases Nat.lt_or_ge i zs.length with h | h
  · have := hb _ (List.getElem_mem h)
    rw [List.getD, List.getElem?_eq_getElem h, Option.getD_some]
    omega
  · rw [List.getD, List.getElem?_eq_none h]; decide
theorem be4_lt {zs : List Int} (hb : AllBytes zs) (j : Nat) : be4 zs j < 4294967296 := by
  have h0 := z_lt hb (4 * j)
  have h1 := z_lt hb (4 * j + 1)
  have h2 := z_lt hb (4 * j + 2)
  have h3 := z_lt hb (4 * j + 3)
  unfold be4
  omega
def AllW (l : List Nat) : Prop := ∀ x ∈ l, x < 4294967296
theorem AllW.get {l : List Nat} (h : AllW l) (i : Nat) : l.getD i 0 < 4294967296 := by
  rcases Nat.lt_or_ge i l.length with h1 | h1
  · rw [List.getD, List.getElem?_eq_getElem h1]; exact h _ (List.getElem_mem h1)
  · rw [List.getD, List.getElem?_eq_none h1]; decide
theorem ws_all {zs : List Int} (hb : AllBytes zs) : ∀ n, AllW (ws zs n)
  | 0 => fun x hx => by simp [ws] at hx
  | n + 1 => fun x hx => by
    rcases Nat.lt_or_ge n 16 with h | h
    · rw [ws_small zs h] at hx
      rcases List.mem_append.1 hx with h1 | h1
      · exact ws_all hb n x h1
      · rw [List.mem_singleton.1 h1]; exact be4_lt hb n
    · rw [ws_great zs h] at hx
      rcases List.mem_append.1 hx with h1 | h1
      · exact ws_all hb n x h1
      · rw [List.mem_singleton.1 h1]; exact add_lt _ _
def blk (s : St) (zs : List Int) : St := s.plus (rnds s (ws zs 64) 64)
theorem blk_ok (s : St) (zs : List Int) : (blk s zs).ok := plus_ok _ _

/-! ### The words, as they are gathered byte by byte -/
/-- What word j is when m of its bytes were taken. -/
def part (zs : List Int) (j : Nat) : Nat → Nat
  | 0 => 0
  | 1 => z zs (4 * j)
  | 2 => 256 * z zs (4 * j) + z zs (4 * j + 1)
  | 3 => 65536 * z zs (4 * j) + 256 * z zs (4 * j + 1) + z zs (4 * j + 2)
  | _ => be4 zs j
theorem part_lt {zs : List Int} (hb : AllBytes zs) (j m : Nat) : part zs j m < 4294967296 := by
  have h0 := z_lt hb (4 * j)
  have h1 := z_lt hb (4 * j + 1)
  have h2 := z_lt hb (4 * j + 2)
  have h3 := be4_lt hb j
  unfold part
  split <;> omega
theorem part_four (zs : List Int) (j : Nat) {m : Nat} (h : 4 ≤ m) : part zs j m = be4 zs j := by
  unfold part
  split <;> first | omega | rfl
theorem part_step {zs : List Int} (hb : AllBytes zs) (k : Nat) : part zs (k / 4) (k - 4 * (k / 4) + 1) = part zs (k / 4) (k - 4 * (k / 4)) * 256 + z zs k ∧ part zs (k / 4) (k - 4 * (k / 4)) < 16777216 := by
  have h0 := z_lt hb (4 * (k / 4))
  have h1 := z_lt hb (4 * (k / 4) + 1)
  have h2 := z_lt hb (4 * (k / 4) + 2)
  have hr : k - 4 * (k / 4) = 0 ∨ k - 4 * (k / 4) = 1 ∨ k - 4 * (k / 4) = 2 ∨ k - 4 * (k / 4) = 3 := by omega
  rcases hr with h | h | h | h
  · rw [h]
    have hk : z zs k = z zs (4 * (k / 4)) := by congr 1; omega
    simp only [part]; omega
  · rw [h]
    have hk : z zs k = z zs (4 * (k / 4) + 1) := by congr 1; omega
    simp only [part]; omega
  · rw [h]
    have hk : z zs k = z zs (4 * (k / 4) + 2) := by congr 1; omega
    simp only [part]; omega
  · rw [h]
    have hk : z zs k = z zs (4 * (k / 4) + 3) := by congr 1; omega
    simp only [part, be4]; omega
/-- The 64 cells when k bytes were taken. -/
def gath (zs : List Int) (k : Nat) : List Nat := (List.range 64).map fun j => if j < 16 then part zs j (k - 4 * j) else 0
theorem gath_len (zs : List Int) (k : Nat) : (gath zs k).length = 64 := by simp [gath]
theorem gath_get (zs : List Int) (k j : Nat) (h : j < 16) : (gath zs k).getD j 0 = part zs j (k - 4 * j) := by
  simp [gath, List.getD, show j < 64 by omega, h]
theorem gath_next {zs : List Int} (hb : AllBytes zs) {k : Nat} (hk : k < 64) : (gath zs k).set (k / 4) ((gath zs k).getD (k / 4) 0 * 256 + z zs k) = gath zs (k + 1) := by
  rw [gath_get zs k (k / 4) (by omega), ← (part_step hb k).1]
  apply List.ext_getElem?
  intro i
  rw [List.getElem?_set]
  by_cases e : k / 4 = i
  · rw [if_pos e, gath_len, if_pos (by omega)]
    subst e
    simp only [gath, List.getElem?_map, List.getElem?_range (show k / 4 < 64 by omega), Option.map_some, show k / 4 < 16 by omega, if_true]
    congr 2
    omega
  · rw [if_neg e]
    simp only [gath, List.getElem?_map]
    rcases Nat.lt_or_ge i 64 with h | h
    · rw [List.getElem?_range h, Option.map_some, Option.map_some]
      congr 1
      by_cases h16 : i < 16
      · rw [if_pos h16, if_pos h16]
        rcases Nat.lt_or_ge (k / 4) i with h1 | h1
        · rw [show k - 4 * i = 0 by omega, show k + 1 - 4 * i = 0 by omega]
        · rw [part_four zs i (by omega), part_four zs i (by omega)]
      · rw [if_neg h16, if_neg h16]
    · rw [List.getElem?_eq_none (by simpa using h)]; rfl
theorem gath_zero (zs : List Int) : gath zs 0 = List.replicate 64 0 := by
  apply List.ext_getElem?
  intro i
  simp only [gath, List.getElem?_map, List.getElem?_replicate]
  rcases Nat.lt_or_ge i 64 with h | h
  · rw [List.getElem?_range h, if_pos h, Option.map_some, Nat.zero_sub]
    split <;> rfl
  · rw [List.getElem?_eq_none (by simpa using h), if_neg (by omega)]; rfl
theorem ws_get (zs : List Int) : ∀ n, n ≤ 16 → ∀ i, i < n → (ws zs n)[i]? = some (be4 zs i)
  | 0, _, _, h => by omega
  | n + 1, hn, i, hi => by
    rw [ws_small zs (by omega), List.getElem?_append, ws_len]
    by_cases e : i < n
    · rw [if_pos e]; exact ws_get zs n (by omega) i e
    · rw [if_neg e, show i = n by omega, Nat.sub_self]; rfl
theorem gath_all (zs : List Int) : gath zs 64 = ws zs 16 ++ List.replicate (64 - 16) 0 := by
  apply List.ext_getElem?
  intro i
  simp only [gath, List.getElem?_map]
  rw [List.getElem?_append, ws_len]
  rcases Nat.lt_or_ge i 64 with h | h
  · rw [List.getElem?_range h, Option.map_some]
    by_cases h16 : i < 16
    · rw [if_pos h16, if_pos h16, ws_get zs 16 (by omega) i h16, part_four zs i (by omega)]
    · rw [if_neg h16, if_neg h16, List.getElem?_replicate, if_pos (by omega)]
  · rw [List.getElem?_eq_none (by simpa using h), if_neg (by omega), List.getElem?_replicate, if_neg (by omega)]; rfl
/-- A row with room: n words, and noughts up to 64. -/
def pad (l : List Nat) : List Nat := l ++ List.replicate (64 - l.length) 0
theorem pad_len {l : List Nat} (h : l.length ≤ 64) : (pad l).length = 64 := by simp [pad]; omega
theorem pad_set {l : List Nat} {n x : Nat} (h : l.length = n) (hn : n < 64) : (pad l).set n x = pad (l ++ [x]) := by
  unfold pad
  rw [List.set_append, if_neg (by omega), h, Nat.sub_self, List.length_append, h, show 64 - n = (64 - (n + 1)) + 1 by omega, List.replicate_succ]
  simp
theorem pad_get {l : List Nat} {i : Nat} (h : i < l.length) : (pad l).getD i 0 = l.getD i 0 := by
  simp [pad, List.getD, List.getElem?_append, h]
theorem pad_full {l : List Nat} (h : l.length = 64) : pad l = l := by simp [pad, h]

/-! ### Blocks -/
def blocks (s : St) (zs : List Int) : Nat → St
  | 0 => s
  | n + 1 => blk (blocks s zs n) ((zs.drop (64 * n)).take 64)
theorem blocks_ok {s : St} (zs : List Int) (h : s.ok) : ∀ n, (blocks s zs n).ok
  | 0 => h
  | n + 1 => blk_ok _ _
/-- The state behind all whole blocks. -/
def all (s : St) (zs : List Int) : St := blocks s zs (zs.length / 64)
theorem all_ok {s : St} (zs : List Int) (h : s.ok) : (all s zs).ok := blocks_ok zs h _
theorem blocks_left (s : St) (xs ys : List Int) (m : Nat) (hx : xs.length = 64 * m) : ∀ n, n ≤ m → blocks s (xs ++ ys) n = blocks s xs n
  | 0, _ => rfl
  | n + 1, h => by
    rw [blocks, blocks, blocks_left s xs ys m hx n (by omega), List.drop_append_of_le_length (by omega), List.take_append_of_le_length (by simp; omega)]
theorem blocks_join (s : St) (xs ys : List Int) (m : Nat) (hx : xs.length = 64 * m) : ∀ n, blocks s (xs ++ ys) (m + n) = blocks (blocks s xs m) ys n
  | 0 => blocks_left s xs ys m hx m (Nat.le_refl _)
  | n + 1 => by
    rw [Nat.add_succ, blocks, blocks, blocks_join s xs ys m hx n, List.drop_append, List.drop_eq_nil_of_le (by omega), List.nil_append, show 64 * (m + n) - xs.length = 64 * n by omega]
theorem all_join (s : St) (xs ys : List Int) (hx : xs.length % 64 = 0) : all s (xs ++ ys) = all (all s xs) ys := by
  have h : xs.length = 64 * (xs.length / 64) := by omega
  rw [all, all, all, List.length_append, ← blocks_join s xs ys _ h]
  congr 1
  omega

/-! ### The message -/
def be8 (n : Nat) : List Int := [((n / 72057594037927936 % 256 : Nat) : Int), ((n / 281474976710656 % 256 : Nat) : Int), ((n / 1099511627776 % 256 : Nat) : Int), ((n / 4294967296 % 256 : Nat) : Int), ((n / 16777216 % 256 : Nat) : Int), ((n / 65536 % 256 : Nat) : Int), ((n / 256 % 256 : Nat) : Int), ((n % 256 : Nat) : Int)]
/-- How many noughts. -/
def gap (n : Nat) : Nat := (119 - n % 64) % 64
/-- What stands behind bytes of which r are in no whole block, n in all. -/
def tail (r n : Nat) : List Int := [128] ++ List.replicate (gap r) 0 ++ be8 (8 * n)
def msg (zs : List Int) : List Int := zs ++ tail zs.length zs.length
theorem gap_mod (n : Nat) : gap (n % 64) = gap n := by unfold gap; rw [Nat.mod_mod]
theorem tail_mod (n m : Nat) : tail (n % 64) m = tail n m := by unfold tail; rw [gap_mod]
theorem msg_split (zs : List Int) : msg zs = zs.take (zs.length - zs.length % 64) ++ (zs.drop (zs.length - zs.length % 64) ++ tail (zs.length % 64) zs.length) := by
  rw [← List.append_assoc, List.take_append_drop, tail_mod, msg]
theorem tail_len (r n : Nat) : (tail r n).length = 9 + gap r := by simp [tail, be8]; omega
theorem msg_len (zs : List Int) : (msg zs).length % 64 = 0 := by rw [msg, List.length_append, tail_len]; unfold gap; omega

/-! ### The digest -/
def dig (s : St) : List Int := (List.range 32).map fun i => ((s.list.getD (i / 4) 0 / 256 ^ (3 - i % 4) % 256 : Nat) : Int)
def sum (zs : List Int) : List Int := dig (all H0 (msg zs))
theorem dig_len (s : St) : (dig s).length = 32 := by simp [dig]
theorem dig_bytes (s : St) : AllBytes (dig s) := by
  intro z hz
  simp only [dig, List.mem_map] at hz
  obtain ⟨i, _, rfl⟩ := hz
  omega
theorem sum_len (zs : List Int) : (sum zs).length = 32 := dig_len _
theorem sum_bytes (zs : List Int) : AllBytes (sum zs) := dig_bytes _
/-- The digest, by parts. -/
theorem sum_parts (zs : List Int) : sum zs = dig (all (all H0 (zs.take (zs.length - zs.length % 64))) (zs.drop (zs.length - zs.length % 64) ++ tail (zs.length % 64) zs.length)) := by
  rw [sum, msg_split, all_join]
  rw [List.length_take]
  omega
theorem sum_none : sum [] = [227, 176, 196, 66, 152, 252, 28, 20, 154, 251, 244, 200, 153, 111, 185, 36, 39, 174, 65, 228, 100, 155, 147, 76, 164, 149, 153, 27, 120, 82, 184, 85] := by decide +kernel
theorem sum_abc : sum [97, 98, 99] = [186, 120, 22, 191, 143, 1, 207, 234, 65, 65, 64, 222, 93, 174, 34, 35, 176, 3, 97, 163, 150, 23, 122, 156, 180, 16, 255, 97, 242, 0, 21, 173] := by decide +kernel
end Go.Proofs.YtonbhcbkelmhgaaDoor.SH
