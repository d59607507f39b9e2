/-
  Plain facts on the check of bytes (a word, stepped eight times for each byte): by a table of stepped bytes it is the same; bits that an odd number of words has go through it; other words stay other ones. Nothing of any program is imported.
-/
import Derived.Test.YtomlckefkamdgaaWireMath
namespace Go.Proofs.Ytomlckefkamdgaa
namespace SM
open WM

def step (w : Nat) : Nat := if w % 2 = 1 then (w / 2) ^^^ 3988292384 else w / 2
def steps : Nat → Nat → Nat
  | 0, w => w
  | k + 1, w => step (steps k w)
/-- A word, and a byte taken. -/
def take1 (w : Nat) (z : Int) : Nat := steps 8 (w ^^^ z.toNat)
def crc (w : Nat) (zs : List Int) : Nat := zs.foldl take1 w
def sum (zs : List Int) : Int := 4294967295 - (crc 4294967295 zs : Int)

theorem step_zero : step 0 = 0 := by decide
theorem step_xor (a b : Nat) : step (a ^^^ b) = step a ^^^ step b := by
  unfold step
  have h := Nat.xor_mod_two_eq_one (a := a) (b := b)
  rw [Nat.xor_div_two]
  rcases Nat.mod_two_eq_zero_or_one a with ha | ha <;> rcases Nat.mod_two_eq_zero_or_one b with hb | hb
  · rw [if_neg (by omega), if_neg (by omega), if_neg (by omega)]
  · rw [if_pos (by omega), if_neg (by omega), if_pos (by omega), Nat.xor_assoc]
  · rw [if_pos (by omega), if_pos (by omega), if_neg (by omega), Nat.xor_assoc, Nat.xor_assoc, Nat.xor_comm (b / 2)]
  · rw [if_neg (by omega), if_pos (by omega), if_pos (by omega)]
    rw [show (a / 2 ^^^ 3988292384) ^^^ (b / 2 ^^^ 3988292384) = (a / 2 ^^^ b / 2) ^^^ (3988292384 ^^^ 3988292384) by
      rw [Nat.xor_assoc, Nat.xor_assoc, ← Nat.xor_assoc 3988292384 (b / 2), Nat.xor_comm 3988292384 (b / 2), Nat.xor_assoc (b / 2)], Nat.xor_self, Nat.xor_zero]
theorem steps_xor : ∀ (k a b : Nat), steps k (a ^^^ b) = steps k a ^^^ steps k b
  | 0, _, _ => rfl
  | k + 1, a, b => by rw [steps, steps_xor k, step_xor]; rfl
theorem step_lt {w : Nat} (h : w < 4294967296) : step w < 4294967296 := by
  unfold step
  split
  · exact Nat.xor_lt_two_pow (n := 32) (by omega) (by omega)
  · omega
theorem steps_lt : ∀ (k : Nat) {w : Nat}, w < 4294967296 → steps k w < 4294967296
  | 0, _, h => h
  | k + 1, _, h => step_lt (steps_lt k h)
theorem steps_succ' : ∀ (k w : Nat), steps (k + 1) w = steps k (step w)
  | 0, _ => rfl
  | k + 1, w => by rw [steps, steps_succ' k]; rfl
theorem steps_high : ∀ (k m : Nat), steps k (m * 2 ^ k) = m
  | 0, m => by simp [steps]
  | k + 1, m => by
    rw [steps_succ']
    have e : step (m * 2 ^ (k + 1)) = m * 2 ^ k := by
      unfold step
      rw [Nat.pow_succ, ← Nat.mul_assoc, if_neg (by omega)]
      omega
    rw [e, steps_high k]
/-- By the table. -/
theorem split_low (w : Nat) : w = (w / 256 * 256) ^^^ (w % 256) := by
  have := Nat.two_pow_add_eq_or_of_lt (i := 8) (b := w % 256) (by omega) (w / 256)
  have h2 : (w / 256 * 256) ^^^ (w % 256) = (w / 256 * 256) + (w % 256) := by
    rw [show w / 256 * 256 = 2 ^ 8 * (w / 256) by omega, this]
    apply Nat.eq_of_testBit_eq
    intro i
    rw [Nat.testBit_xor, Nat.testBit_or, Nat.testBit_two_pow_mul]
    by_cases hi : 8 ≤ i
    · have h3 : Nat.testBit (w % 256) i = false := Nat.testBit_lt_two_pow (by
        have : (2 : Nat) ^ 8 ≤ 2 ^ i := Nat.pow_le_pow_right (by omega) hi
        omega)
      simp [h3]
    · simp [hi]
  omega
theorem table (w x : Nat) : steps 8 (w ^^^ x) = (w / 256) ^^^ steps 8 ((w % 256) ^^^ x) := by
  conv => lhs; rw [split_low w, Nat.xor_assoc, steps_xor, show w / 256 * 256 = w / 256 * 2 ^ 8 by rfl, steps_high]

theorem take1_lt {w : Nat} {z : Int} (h : w < 4294967296) (hz : 0 ≤ z ∧ z ≤ 255) : take1 w z < 4294967296 :=
  steps_lt 8 (Nat.xor_lt_two_pow (n := 32) (by omega) (by omega))
theorem crc_lt : ∀ {zs : List Int} {w : Nat}, w < 4294967296 → AllBytes zs → crc w zs < 4294967296
  | [], _, h, _ => h
  | z :: zs, w, h, hb => crc_lt (zs := zs) (take1_lt h (hb z (by simp))) (fun y hy => hb y (by simp [hy]))
theorem crc_snoc (w : Nat) (zs : List Int) (z : Int) : crc w (zs ++ [z]) = take1 (crc w zs) z := by simp [crc]
theorem crc_append (w : Nat) (xs ys : List Int) : crc w (xs ++ ys) = crc (crc w xs) ys := by simp [crc]
theorem sum_range {zs : List Int} (h : AllBytes zs) : 0 ≤ sum zs ∧ sum zs ≤ 4294967295 := by
  have := crc_lt (w := 4294967295) (by omega) h
  unfold sum; omega

/-! ### Other words stay other ones -/
theorem step_eq_zero {w : Nat} (h : w < 4294967296) (e : step w = 0) : w = 0 := by
  unfold step at e
  split at e
  · have h1 : w / 2 = 3988292384 := by
      have := congrArg (· ^^^ 3988292384) e
      simp only [Nat.xor_assoc, Nat.xor_self, Nat.xor_zero, Nat.zero_xor] at this
      exact this
    omega
  · omega
theorem xor_eq_zero {a b : Nat} (h : a ^^^ b = 0) : a = b := by
  have := congrArg (· ^^^ b) h
  simpa [Nat.xor_assoc] using this
theorem step_inj {a b : Nat} (ha : a < 4294967296) (hb : b < 4294967296) (h : step a = step b) : a = b := by
  refine xor_eq_zero (step_eq_zero (Nat.xor_lt_two_pow (n := 32) ha hb) ?_)
  rw [step_xor, h, Nat.xor_self]
theorem steps_inj : ∀ (k : Nat) {a b : Nat}, a < 4294967296 → b < 4294967296 → steps k a = steps k b → a = b
  | 0, _, _, _, _, h => h
  | k + 1, _, _, ha, hb, h => steps_inj k ha hb (step_inj (steps_lt k ha) (steps_lt k hb) h)
theorem xor_right_inj {a b c : Nat} (h : a ^^^ c = b ^^^ c) : a = b := by
  have := congrArg (· ^^^ c) h
  simpa [Nat.xor_assoc] using this
theorem xor_left_inj {a b c : Nat} (h : c ^^^ a = c ^^^ b) : a = b := by
  rw [Nat.xor_comm c a, Nat.xor_comm c b] at h
  exact xor_right_inj h
theorem take1_inj {a b : Nat} {z : Int} (ha : a < 4294967296) (hb : b < 4294967296) (hz : 0 ≤ z ∧ z ≤ 255) (h : take1 a z = take1 b z) : a = b :=
  xor_right_inj (steps_inj 8 (Nat.xor_lt_two_pow (n := 32) (by omega) (by omega)) (Nat.xor_lt_two_pow (n := 32) (by omega) (by omega)) h)
theorem take1_byte {a : Nat} {y z : Int} (ha : a < 4294967296) (hy : 0 ≤ y ∧ y ≤ 255) (hz : 0 ≤ z ∧ z ≤ 255) (h : take1 a y = take1 a z) : y = z := by
  have := xor_left_inj (steps_inj 8 (Nat.xor_lt_two_pow (n := 32) (by omega) (by omega)) (Nat.xor_lt_two_pow (n := 32) (by omega) (by omega)) h)
  omega
theorem crc_inj : ∀ {zs : List Int} {a b : Nat}, a < 4294967296 → b < 4294967296 → AllBytes zs → crc a zs = crc b zs → a = b
  | [], _, _, _, _, _, h => h
  | z :: zs, a, b, ha, hb, hz, h => take1_inj ha hb (hz z (by simp)) (crc_inj (zs := zs) (take1_lt ha (hz z (by simp))) (take1_lt hb (hz z (by simp))) (fun y hy => hz y (by simp [hy])) h)
/-- Bytes that differ in one place alone have other checks. -/
theorem sum_one {xs ys : List Int} {y z : Int} (hx : AllBytes xs) (hys : AllBytes ys) (hy : 0 ≤ y ∧ y ≤ 255) (hz : 0 ≤ z ∧ z ≤ 255) (h : sum (xs ++ y :: ys) = sum (xs ++ z :: ys)) : y = z := by
  unfold sum at h
  have h1 := crc_lt (w := 4294967295) (by omega) hx
  have e : crc 4294967295 (xs ++ y :: ys) = crc 4294967295 (xs ++ z :: ys) := by omega
  rw [crc_append, crc_append] at e
  exact take1_byte h1 hy hz (crc_inj (zs := ys) (take1_lt h1 hy) (take1_lt h1 hz) hys e)

/-! ### Bits that an odd number has -/
def xor3 : List Int → List Int → List Int → List Int
  | x :: xs, y :: ys, z :: zs => ((x.toNat ^^^ y.toNat ^^^ z.toNat : Nat) : Int) :: xor3 xs ys zs
  | _, _, _ => []
theorem xor_mid (a b c x y z : Nat) : (a ^^^ b ^^^ c) ^^^ (x ^^^ y ^^^ z) = (a ^^^ x) ^^^ (b ^^^ y) ^^^ (c ^^^ z) := by
  apply Nat.eq_of_testBit_eq
  intro i
  simp only [Nat.testBit_xor]
  cases a.testBit i <;> cases b.testBit i <;> cases c.testBit i <;> cases x.testBit i <;> cases y.testBit i <;> cases z.testBit i <;> rfl
theorem crc_xor3 : ∀ {xs ys zs : List Int} {a b c : Nat}, ys.length = xs.length → zs.length = xs.length → crc (a ^^^ b ^^^ c) (xor3 xs ys zs) = crc a xs ^^^ crc b ys ^^^ crc c zs
  | [], [], [], _, _, _, _, _ => rfl
  | x :: xs, y :: ys, z :: zs, a, b, c, h1, h2 => by
    show crc (take1 (a ^^^ b ^^^ c) _) (xor3 xs ys zs) = crc (take1 a x) xs ^^^ crc (take1 b y) ys ^^^ crc (take1 c z) zs
    rw [← crc_xor3 (by simpa using h1) (by simpa using h2)]
    congr 1
    unfold take1
    rw [Int.toNat_natCast, xor_mid, steps_xor, steps_xor]
  | [], _ :: _, _, _, _, _, h, _ => by simp at h
  | [], [], _ :: _, _, _, _, _, h => by simp at h
  | _ :: _, [], _, _, _, _, h, _ => by simp at h
  | _ :: _, _ :: _, [], _, _, _, _, h => by simp at h
theorem not_xor {a : Nat} (h : a < 4294967296) : 4294967295 - a = 4294967295 ^^^ a := by
  have e : (4294967295 - a) = (BitVec.not (BitVec.ofNat 32 a)).toNat := by
    rw [show BitVec.not (BitVec.ofNat 32 a) = ~~~(BitVec.ofNat 32 a) from rfl, BitVec.toNat_not, BitVec.toNat_ofNat]
    omega
  rw [e]
  apply Nat.eq_of_testBit_eq
  intro i
  rw [show BitVec.not (BitVec.ofNat 32 a) = ~~~(BitVec.ofNat 32 a) from rfl, BitVec.testBit_toNat, BitVec.getLsbD_not, BitVec.getLsbD_ofNat, Nat.testBit_xor, show 4294967295 = 2 ^ 32 - 1 from rfl, Nat.testBit_two_pow_sub_one]
  by_cases hi : i < 32
  · simp [hi]
  · have : a.testBit i = false := Nat.testBit_lt_two_pow (by
      have : (2 : Nat) ^ 32 ≤ 2 ^ i := Nat.pow_le_pow_right (by omega) (by omega)
      omega)
    simp [hi, this]
theorem sum_xor3 {xs ys zs : List Int} (hx : AllBytes xs) (hy : AllBytes ys) (hz : AllBytes zs) (h1 : ys.length = xs.length) (h2 : zs.length = xs.length) :
    sum (xor3 xs ys zs) = (((sum xs).toNat ^^^ (sum ys).toNat ^^^ (sum zs).toNat : Nat) : Int) := by
  have a := crc_lt (w := 4294967295) (by omega) hx
  have b := crc_lt (w := 4294967295) (by omega) hy
  have c := crc_lt (w := 4294967295) (by omega) hz
  have key := crc_xor3 (a := 4294967295) (b := 4294967295) (c := 4294967295) h1 h2
  rw [Nat.xor_self, Nat.zero_xor] at key
  have k1 : crc 4294967295 (xor3 xs ys zs) < 4294967296 := by rw [key]; exact Nat.xor_lt_two_pow (n := 32) (Nat.xor_lt_two_pow (n := 32) a b) c
  have t : ∀ l : List Int, crc 4294967295 l < 4294967296 → (sum l).toNat = 4294967295 - crc 4294967295 l := fun l h => by unfold sum; omega
  rw [t xs a, t ys b, t zs c, not_xor a, not_xor b, not_xor c]
  have e : sum (xor3 xs ys zs) = ((4294967295 - crc 4294967295 (xor3 xs ys zs) : Nat) : Int) := by unfold sum; omega
  rw [e, not_xor k1, key]
  congr 1
  apply Nat.eq_of_testBit_eq
  intro i
  simp only [Nat.testBit_xor]
  cases (4294967295 : Nat).testBit i <;> cases (crc 4294967295 xs).testBit i <;> cases (crc 4294967295 ys).testBit i <;> cases (crc 4294967295 zs).testBit i <;> rfl
end SM
end Go.Proofs.Ytomlckefkamdgaa
