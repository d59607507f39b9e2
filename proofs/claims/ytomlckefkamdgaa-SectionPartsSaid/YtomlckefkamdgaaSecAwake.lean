/-
  The laws' own 'awake' answers true, whatever the world, and writes nothing that was there.
-/
import Derived.Test.YtomlckefkamdgaaSecOpen2
import Derived.Test.YtomlckefkamdgaaSecOpn
import Derived.Lib.SlBytesConst
namespace Go.Proofs.Ytomlckefkamdgaa
open Go.RowKit WM
set_option linter.unusedVariables false
def ab : List Int := [97, 98]
def nine : List Int := [49, 50, 51, 52, 53, 54, 55, 56, 57]
theorem ab_bytes : AllBytes ab := by unfold AllBytes ab; decide
theorem nine_bytes : AllBytes nine := by unfold AllBytes nine; decide
theorem sum_nine : SM.sum nine = 3421780262 := by decide +kernel
theorem open_ab : opn (packL 3 ab) = .ok 3 ab 8 := by
  have := opn_pack 3 ab [] (by omega) (by decide)
  rw [List.append_nil] at this
  rw [this, pack_len]
  rfl
theorem str_ab : strOfNums ab = ⟨#[97, 98]⟩ := by decide +kernel
theorem byt_new (w : World) (e : TypeId) (fz : Nat × Nat) (zs : List Int) : Byt (w.alloc (.cells (zs.map (Value.int .u8)).toArray e fz)) (w.alloc (.cells (zs.map (Value.int .u8)).toArray e fz)).heap.size (some ⟨w.heap.size, 0, none⟩) zs := fun _ => by
  refine ⟨_, _, rfl, by rw [World.size_alloc]; omega, fun i hi => ?_⟩
  rw [Nat.zero_add, cell_of_row _ _ i _ _ _ (heap_alloc_new w _)]
  simp [List.getD, hi]
set_option maxHeartbeats 1000000 in
theorem awake_any (w : World) : Calls Try.prog 11 #[] w fun e w' => e = .returned (.bool true) ∧ Below w.heap.size w w' := by
  have hpab : AllBytes (packL 3 ab) := pack_bytes (by omega) (by omega) ab_bytes
  have hp := fun (w : World) (A : Option Addr) (h : Byt w w.heap.size A ab) (hn : A = none → 2 = 0) => pack_yes 3 A 2 2 ab w (by omega) (by omega) (by omega) h rfl ab_bytes (Nat.le_refl _) hn
  have ho := fun (w : World) (A : Option Addr) (c : Nat) (h : Byt w w.heap.size A (packL 3 ab)) (h1 : 8 ≤ c) (h2 : c ≤ maxLen) => open_any A 8 c (packL 3 ab) w h (Nat.le_refl _) (by rw [pack_len]; rfl) hpab h1 h2
  rw [open_ab] at ho
  have hs := fun (w : World) (A : Option Addr) (h : Byt w w.heap.size A nine) => sum_any A 9 9 nine w h rfl nine_bytes (by decide) (Nat.le_refl _)
  unfold SumPost at hs
  rw [sum_nine] at hs
  have hl8 : (packL 3 ab).length = 8 := by rw [pack_len]; rfl
  have hcv := fun (w : World) (C : Array Value) (n c : Nat) => Lib.run_convert_bytes_const (P := Try.prog) w 25 5 C n c Try.underlying25 Try.underlying5
  have HP := Lib.hid hp
  have HO := Lib.hid ho
  have HS := Lib.hid hs
  have HL := Lib.hid hl8
  clear hp ho hs hl8 hpab
  go_enter Try.func11, Try.ntmps11
  go_wp2_with fail
  refine (HP.out _ _ (byt_new w 5 (2, 3) ab) (fun e => by cases e)).mono ?_
  rintro e w1 ⟨A, n, c, rfl, hn, hnc, hcm, hown, hb1⟩
  rw [World.size_alloc] at hb1
  have bw1 : Below w.heap.size w w1 := ((Below.refl _ _).alloc (Nat.le_refl _) _).trans (hb1.mono (by omega))
  obtain rfl : 8 = n := by rw [← hn]; exact HL.out.symm
  have hby := Byt.own (zs := packL 3 ab) hown
  clear hn hb1 hown
  go_wp2_with fail
  refine (HO.out _ _ c hby hnc hcm).mono ?_
  rintro e w2 ⟨A2, n2, c2, rfl, hn2, hnc2, hcm2, hown2, hb2⟩
  obtain rfl : 2 = n2 := hn2
  have bw2 := bw1.trans (hb2.mono bw1.size)
  have hy2 := Byt.own (zs := ab) hown2
  clear hown2 hb2
  go_wp2_with fail
  refine (HS.out _ _ (byt_new w2 5 (9, 10) nine)).mono ?_
  rintro e w3 ⟨rfl, hb3⟩
  rw [World.size_alloc] at hb3
  have t9 := (hy2.below (w' := w3) (((Below.refl _ _).alloc (Nat.le_refl _) _).trans (hb3.mono (by omega)))).text (P := Try.prog) (len := 2) (cap := c2) rfl 25 5 9 Try.underlying25 Try.underlying5 Try.underlying9
  rw [str_ab] at t9
  go_wp2
  go_ret
  exact ⟨rfl, bw2.trans ((((Below.refl w2.heap.size w2).alloc (Nat.le_refl _) _).trans (hb3.mono (by omega))).mono bw2.size)⟩
end Go.Proofs.Ytomlckefkamdgaa
