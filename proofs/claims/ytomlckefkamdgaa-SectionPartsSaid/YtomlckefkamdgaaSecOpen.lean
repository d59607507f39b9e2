/-
  What section.Open answers, and bytes.Equal and bytes.Clone, which it calls; for every slice that reads as bytes; nothing that was there is written.
-/
import Derived.Test.YtomlckefkamdgaaSecBegin
import Derived.Test.YtomlckefkamdgaaSecPack
import Derived.Test.YtomlckefkamdgaaTexts
import Derived.Deep.RegionHeld3
import Derived.Lib.LazyBuf
namespace Go.Proofs.Ytomlckefkamdgaa
open Go.RowKit WM
set_option linter.unusedVariables false

/-! ### Parts of a slice of bytes, as single operations -/
theorem equal_any {B1 B2 : Nat} (A1 A2 : Option Addr) (n1 c1 n2 c2 : Nat) (xs ys : List Int) (w : World) (b : Bool) (hb : decide (xs = ys) = b) (h1 : Byt w B1 A1 xs) (l1 : xs.length = n1) (h2 : Byt w B2 A2 ys) (l2 : ys.length = n2) (hx : AllBytes xs) (hy : AllBytes ys) :
    Calls Try.prog 31 #[.slice A1 n1 c1, .slice A2 n2 c2] w fun e w' => e = .returned (.bool b) ∧ w = w' := by
  have t1 := h1.text (P := Try.prog) (cap := c1) l1 25 5 9 Try.underlying25 Try.underlying5 Try.underlying9
  have t2 := h2.text (P := Try.prog) (cap := c2) l2 25 5 9 Try.underlying25 Try.underlying5 Try.underlying9
  have he := str_eq hx hy
  rw [hb] at he
  clear hb h1 h2 l1 l2 hx hy
  go_enter Try.func31, Try.ntmps31
  go_wp2
  go_ret
  exact ⟨rfl, rfl⟩
set_option maxHeartbeats 400000 in
theorem clone_any {B : Nat} (ad : Addr) (n c : Nat) (zs : List Int) (w : World) (h : Byt w B (some ad) zs) (hl : zs.length = n) (hn : n ≤ 100000) (hB : B ≤ w.heap.size) :
    Calls Try.prog 32 #[.slice (some ad) n c] w (Gives w zs) := by
  obtain ⟨i0, hi, hz0, hz1, hz2⟩ := info_parts infoByte
  have ho := own_new w w.heap.size (Nat.le_refl _) 5 [] (by simp)
  have hby := h.below (((Below.refl w.heap.size w).alloc (Nat.le_refl _) (.cells #[] 5)).mono hB)
  have HL := Lib.hid hl
  have heq : (binOp .eql 25 (.slice (some ad) n c) (.slice none 0 0)).run Try.prog w = .ok (.bool false) w := run_eql_slice_nil w _ 5 (some ad) n c Try.underlying25
  clear h hl
  go_enter Try.func32, Try.ntmps32
  go_wp2_with (at_builtin; refine wpList_append_byt _ rfl _ _ 25 rfl w.heap.size 5 i0 Try.underlying25 hi hz0 hz1 hz2 _ 0 [] rfl ho B (some ad) n c zs rfl hby HL.out (fun e => by cases e) (by omega) (by simp) ?_; intro v2 w2 ho2 hg2)
  go_ret
  exact gives_own ho2 (((Below.refl _ _).alloc (Nat.le_refl _) _).grown hg2 (by simp) (fun g hg => own_base ho hg))

/-! ### Open -/
inductive Opn where
  | form
  | check
  | ok (k : Int) (b : List Int) (n : Nat)
def opn (zs : List Int) : Opn :=
  match beg zs with
  | none => .form
  | some (h, n) => if zs.length < h + n + 4 then .form else
    if (zs.drop (h + n)).take 4 = word (SM.sum (zs.take (h + n))) then .ok (zs.getD 0 0) ((zs.drop h).take n) (h + n + 4) else .check
def OpenPost (w : World) : Opn → Ending → World → Prop
  | .form, e, w' => e = .returned (.tuple #[.int .i64 0, .slice none 0 0, .int .i64 0, .int .i64 2]) ∧ Below w.heap.size w w'
  | .check, e, w' => e = .returned (.tuple #[.int .i64 0, .slice none 0 0, .int .i64 0, .int .i64 3]) ∧ Below w.heap.size w w'
  | .ok k b n, e, w' => ∃ A l c, e = .returned (.tuple #[.int .i64 k, .slice A l c, .int .i64 n, .int .i64 0]) ∧ b.length = l ∧ l ≤ c ∧ c ≤ maxLen ∧ w'.ownsRow w.heap.size 5 1 (.slice A l c) l (b.map (Value.int .u8)) ∧ Below w.heap.size w w'
theorem beg_some {zs : List Int} {h n : Nat} (hb : AllBytes zs) (e : beg zs = some (h, n)) : 2 ≤ h ∧ h ≤ zs.length ∧ h ≤ 11 ∧ n ≤ 100000 ∧ ∃ k t, zs = k :: t ∧ 0 ≤ k ∧ k ≤ 9 ∧ dec t = some ((n : Int), h - 1) := by
  match zs, hb, e with
  | k :: t, hb, e =>
    have hk := hb k (by simp)
    rw [beg] at e
    split at e
    · cases e
    · split at e
      · cases e
      · rename_i n' u hd
        have hbt : AllBytes t := fun z hz => hb z (by simp [hz])
        obtain ⟨k1, k2, k3, k4, k5⟩ := dec_some hbt hd
        have h10 := (enc_len n').2
        rw [k3, List.length_take] at h10
        split at e
        · cases e
        · simp only [Option.some.injEq, Prod.mk.injEq] at e
          obtain ⟨rfl, rfl⟩ := e
          refine ⟨by omega, by simp; omega, by omega, by omega, k, t, rfl, hk.1, by omega, ?_⟩
          rw [hd]
          simp
          omega
theorem open_none {B : Nat} (A : Option Addr) (len cap : Nat) (zs : List Int) (w : World) (h : Byt w B A zs) (hl : zs.length = len) (hb : AllBytes zs) (hlc : len ≤ cap) (hm : cap ≤ maxLen) (hd : beg zs = none) :
    Calls Try.prog 13 #[.slice A len cap] w (OpenPost w .form) := by
  have hg := begin_any A len cap zs w h hl hb hlc hm
  rw [hd] at hg
  simp only [begV] at hg
  have HG := Lib.hid hg
  clear hg hd hl hb h
  simp only [maxLen] at hm
  go_enter Try.func13, Try.ntmps13
  go_wp2_with (go_at_call 30; refine HG.out.mono ?_; rintro e w1 ⟨rfl, rfl⟩)
  exact bodyPost_ret (v := .tuple #[.int .i64 0, .slice none 0 0, .int .i64 0, .int .i64 2]) (by simp [results, Try.results13, go_sem]) rfl ⟨rfl, Below.refl _ _⟩
theorem open_short {B : Nat} (A : Option Addr) (len cap : Nat) (zs : List Int) (w : World) (u n : Nat) (h : Byt w B A zs) (hl : zs.length = len) (hb : AllBytes zs) (hlc : len ≤ cap) (hm : cap ≤ maxLen) (hd : beg zs = some (u, n)) (hs : len < u + n + 4) :
    Calls Try.prog 13 #[.slice A len cap] w (OpenPost w .form) := by
  have hg := begin_any A len cap zs w h hl hb hlc hm
  rw [hd] at hg
  simp only [begV] at hg
  obtain ⟨b1, b2, b3, b4, _⟩ := beg_some hb hd
  rw [hl] at b2
  have HG := Lib.hid hg
  clear hg hd hl hb h
  simp only [maxLen] at hm
  have ht : (len : Int) - u < n + 4 := by omega
  go_enter Try.func13, Try.ntmps13
  go_wp2_with (go_at_call 30; refine HG.out.mono ?_; rintro e w1 ⟨rfl, rfl⟩)
  exact bodyPost_ret (v := .tuple #[.int .i64 0, .slice none 0 0, .int .i64 0, .int .i64 2]) (by simp [results, Try.results13, go_sem]) rfl ⟨rfl, Below.refl _ _⟩
end Go.Proofs.Ytomlckefkamdgaa
