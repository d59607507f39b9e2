/-
  What section.Pack answers, for every kind and every slice that reads as bytes; nothing that was there is written.
-/
import Derived.Test.YtomlckefkamdgaaSecSum
import Derived.Test.YtomlckefkamdgaaWPut
import Derived.Test.YtomlckefkamdgaaWWord
namespace Go.Proofs.Ytomlckefkamdgaa
open Go.RowKit WM
set_option linter.unusedVariables false

def packHead (k : Int) (zs : List Int) : List Int := [k] ++ enc zs.length ++ zs
def packL (k : Int) (zs : List Int) : List Int := packHead k zs ++ word (SM.sum (packHead k zs))
theorem head_bytes {k : Int} {zs : List Int} (h0 : 0 ≤ k) (h9 : k ≤ 9) (hb : AllBytes zs) : AllBytes (packHead k zs) :=
  all_append (all_append (fun z hz => by simp at hz; omega) (enc_bytes _)) hb
theorem pack_bytes {k : Int} {zs : List Int} (h0 : 0 ≤ k) (h9 : k ≤ 9) (hb : AllBytes zs) : AllBytes (packL k zs) :=
  all_append (head_bytes h0 h9 hb) (word_bytes (SM.sum_range (head_bytes h0 h9 hb)).1 (SM.sum_range (head_bytes h0 h9 hb)).2)
theorem pack_len (k : Int) (zs : List Int) : (packL k zs).length = 1 + (enc zs.length).length + zs.length + 4 := by simp [packL, packHead, word]; omega
def PackNo (w : World) (e : Ending) (w' : World) : Prop := e = .returned (.tuple #[.slice none 0 0, .bool false]) ∧ w = w'

theorem pack_kind (k : Int) (A : Option Addr) (len cap : Nat) (w : World) (hk : k < 0 ∨ 9 < k) (h1 : -9223372036854775808 ≤ k) (h2 : k ≤ 9223372036854775807) :
    Calls Try.prog 12 #[.int .i64 k, .slice A len cap] w (PackNo w) := by
  rcases hk with hk | hk
  · go_enter Try.func12, Try.ntmps12
    go_wp2
    go_ret2
    exact ⟨rfl, rfl⟩
  · have hk' : ¬ k < 0 := by omega
    go_enter Try.func12, Try.ntmps12
    go_wp2
    go_ret2
    exact ⟨rfl, rfl⟩
theorem pack_long (k : Int) (A : Option Addr) (len cap : Nat) (w : World) (h0 : 0 ≤ k) (h9 : k ≤ 9) (hl : 100000 < len) (hm : len ≤ maxLen) :
    Calls Try.prog 12 #[.int .i64 k, .slice A len cap] w (PackNo w) := by
  unfold maxLen at hm
  go_enter Try.func12, Try.ntmps12
  go_wp2
  go_ret2
  exact ⟨rfl, rfl⟩
theorem own_len {w : World} {base m n M : Nat} {v : Value} {zs : List Int} (h : w.ownsRow base 5 1 v m (zs.map (Value.int .u8))) (hn : zs.length = n) (hm : m ≤ M) : n ≤ M := by
  have := h.1
  rw [List.length_map] at this
  omega
theorem word_four {x : Int} {n : Nat} (h : (word x).length = n) : n ≤ 4 := by rw [← h]; simp [word]
set_option maxHeartbeats 1000000 in
theorem pack_yes {B : Nat} (k : Int) (A : Option Addr) (len cap : Nat) (zs : List Int) (w : World) (h0 : 0 ≤ k) (h9 : k ≤ 9) (hlen : len ≤ 100000) (h : Byt w B A zs) (hl : zs.length = len) (hb : AllBytes zs) (hB : B ≤ w.heap.size) (hnil : A = none → cap = 0) :
    Calls Try.prog 12 #[.int .i64 k, .slice A len cap] w (GivesT w (packL k zs)) := by
  obtain ⟨i0, hi, hz0, hz1, hz2⟩ := info_parts infoByte
  have HH := Lib.hid h
  have HL := Lib.hid hl
  have HB := Lib.hid hb
  have HN := Lib.hid hnil
  clear h hl hb hnil
  go_enter Try.func12, Try.ntmps12
  go_wp2_with fail
  have hel := enc_len len
  refine (put_gives len _ (by omega) (by omega)).mono ?_
  rintro e w1 ⟨A1, n1, c1, rfl, hn1, hnc1, hcm1, hown1, hb1⟩
  rw [World.size_alloc] at hb1
  have hbw : Below w.heap.size w w1 := ((Below.refl _ _).alloc (Nat.le_refl _) _).trans (hb1.mono (by omega))
  have ho1 := own_below (own_new w w.heap.size (Nat.le_refl _) 5 [k] (by simp only [maxLen, List.length_singleton]; omega)) (by rw [World.size_alloc]; exact hb1)
  have hby1 := Byt.own (zs := enc len) hown1
  have hnil1 := own_nil hown1
  have HN1 := Lib.hid hn1
  rw [hn1] at hel
  clear hn1 hown1 hb1
  have HE := Lib.hid (show [k] ++ enc len ++ zs = packHead k zs by rw [packHead, HL.out])
  have hhb := Lib.hid (head_bytes h0 h9 HB.out)
  have hsr := SM.sum_range hhb.out
  have hwb := Lib.hid (word_bytes hsr.1 hsr.2)
  have HF := Lib.hid (show packHead k zs ++ word (SM.sum (packHead k zs)) = packL k zs from rfl)
  generalize packHead k zs = H at *
  generalize packL k zs = R at *
  go_wp2_with (first
    | (at_builtin; refine wpList_append_byt (o := ⟨some 25, _, _, _, _, _⟩) _ rfl _ _ 25 rfl w.heap.size 5 i0 Try.underlying25 hi hz0 hz1 hz2 _ 1 [k] rfl ho1 w1.heap.size A1 n1 c1 (enc len) rfl hby1 HN1.out hnil1 (by omega) hbw.size ?_; intro v2 w2 ho2 hg2; have hb2 := hbw.grown hg2 hbw.size (fun g hg => own_base ho1 hg); have hby2 := HH.out.below (hb2.mono hB); clear hg2 hby1 hnil1 ho1)
    | (at_builtin; refine wpList_append_byt (o := ⟨some 28, _, _, _, _, _⟩) _ rfl _ _ 25 rfl w.heap.size 5 i0 Try.underlying25 hi hz0 hz1 hz2 _ (1 + n1) ([k] ++ enc len) rfl ho2 B A len cap zs rfl hby2 HL.out HN.out (by omega) hb2.size ?_; intro v3 w3 ho3 hg3; have hb3 := hb2.grown hg3 hb2.size (fun g hg => own_base ho2 hg); rw [HE.out] at ho3; clear hg3 hby2 ho2; obtain ⟨A3, n3, c3, hv3, hn3, hnc3, hcm3, ho3', hb3'⟩ := gives_own ho3 hb3; injection hv3 with hv3; subst hv3; have hby3 := Lib.hid (Byt.own ho3'); have HN3 := Lib.hid hn3; have hn3' : n3 ≤ 100100 := own_len ho3 hn3 (by omega); clear hn3 ho3 hb3')
    | (go_at_call 27; refine (sum_any A3 n3 c3 H _ hby3.out HN3.out hhb.out (Nat.le_trans hnc3 hcm3) (Nat.le_refl _)).mono ?_; rintro e w4 ⟨rfl, hb4⟩; have ho4 := own_below ho3' hb4; have hbw4 := hb3.trans (hb4.mono hb3.size); clear ho3' hb4)
    | (go_at_call 29; refine (word_gives _ _ hsr.1 hsr.2).mono ?_; rintro e w5 ⟨A5, n5, c5, rfl, hn5, hnc5, hcm5, hown5, hb5⟩; have ho5 := own_below ho4 hb5; have hbw5 := hbw4.trans (hb5.mono hbw4.size); have hby5 := Byt.own hown5; have hnil5 := own_nil hown5; have HN5 := Lib.hid hn5; have hn5' : n5 ≤ 4 := word_four hn5; clear hn5 ho4 hb5)
    | (at_builtin; refine wpList_append_byt (o := ⟨some 33, _, _, _, _, _⟩) _ rfl _ _ 25 rfl w.heap.size 5 i0 Try.underlying25 hi hz0 hz1 hz2 _ n3 H rfl ho5 w5.heap.size A5 n5 c5 (word (SM.sum H)) rfl hby5 HN5.out hnil5 (by omega) hbw5.size ?_; intro v6 w6 ho6 hg6; have hb6 := hbw5.grown hg6 hbw5.size (fun g hg => own_base ho5 hg); rw [HF.out] at ho6; clear hg6 hby5 ho5))
  go_ret2
  exact givesT_own ho6 hb6
end Go.Proofs.Ytomlckefkamdgaa
