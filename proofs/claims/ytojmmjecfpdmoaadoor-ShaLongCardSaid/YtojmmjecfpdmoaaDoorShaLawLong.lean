/-
  The law ShaLong: for every byte and every number it answers true, and nothing that was there is written.
-/
import Derived.Test.YtojmmjecfpdmoaaDoorShaAwake
import Derived.Test.YtojmmjecfpdmoaaDoorShaRSum
namespace Go.Proofs.YtojmmjecfpdmoaaDoor
open Go.RowKit WM
set_option linter.unusedVariables false
theorem made_bytes (n : Nat) : madeCells #[.int .u8 0] n = bvals (List.replicate n 0) := by
  unfold bvals madeCells
  apply Array.ext'
  simp
  exact List.eq_replicate_iff.2 ⟨by simp, fun b hb => by obtain ⟨i, _, rfl⟩ := List.mem_map.1 hb; simp [Nat.mod_one]⟩
def fil (c : Int) (n k : Nat) : List Int := List.replicate k c ++ List.replicate (n - k) 0
theorem fil_next (c : Int) {n k : Nat} (h : k < n) : (fil c n k).set k c = fil c n (k + 1) := by
  unfold fil
  rw [List.set_append, if_neg (by simp), List.length_replicate, Nat.sub_self, show n - k = (n - (k + 1)) + 1 by omega, List.replicate_succ, List.set_cons_zero, List.replicate_succ', List.append_assoc]
  rfl
theorem fil_len (c : Int) {n k : Nat} (h : k ≤ n) : (fil c n k).length = n := by simp [fil]; omega
theorem fil_all (c : Int) (n : Nat) : fil c n n = List.replicate n c := by simp [fil]
theorem BRow.byt {w : World} {g : Nat} {t : TypeId} {l : List Int} (h : BRow w g t l) : Byt w w.heap.size (some ⟨g, 0, none⟩) l := fun _ => ⟨g, 0, rfl, h.lt, fun i hi => by rw [Nat.zero_add]; exact h.cell hi⟩
set_option maxHeartbeats 2000000 in
set_option maxRecDepth 100000 in
theorem walk_shaLong (c n : Int) (w : World) (hlaid : Laid w) (w0 : (Lit.int .u8 c).wf = true) (w1 : (Lit.int .i64 n).wf = true) :
    Calls Tryd.prog 6 #[.int .u8 c, .int .i64 n] w fun e w' => e = .returned (.bool true) ∧ Below w.heap.size w w' := by
  have hcb := bounds_u8 w0
  have AW := Lib.hid (awake_any w hlaid)
  clear w0 w1
  by_cases h1 : n < 0
  · go_enter Tryd.func6, Tryd.ntmps6
    go_wp2_with fail
    refine AW.out.mono ?_
    rintro e w1 ⟨rfl, hb1⟩
    go_wp2
    go_ret
    exact ⟨rfl, hb1⟩
  · by_cases h2 : 700 < n
    · go_enter Tryd.func6, Tryd.ntmps6
      go_wp2_with fail
      refine AW.out.mono ?_
      rintro e w1 ⟨rfl, hb1⟩
      go_wp2
      go_ret
      exact ⟨rfl, hb1⟩
    · obtain ⟨m, rfl⟩ : ∃ m : Nat, n = m := ⟨n.toNat, by omega⟩
      have hm : m ≤ 700 := by omega
      clear h1 h2
      have hmk := fun (w9 : World) => run_make_row' (P := Tryd.prog) 22 5 (.int .u8 0) 1 Tryd.underlying22 infoByte rfl .i64 .i64 m (by omega) (by omega) w9
      rw [made_bytes] at hmk
      have HLA := Lib.hid hlaid
      clear hlaid
      go_enter Tryd.func6, Tryd.ntmps6
      go_wp2_with fail
      refine AW.out.mono ?_
      rintro e w1 ⟨rfl, hb1⟩
      have r1 := BRow.new w1 5 (List.replicate m 0)
      have b1 := hb1.alloc hb1.size (.cells (bvals (List.replicate m 0)) 5)
      have R1 := Lib.hid (show BRow _ w1.heap.size 5 (fil c m 0) from by simpa [fil] using r1)
      have B1 := Lib.hid b1
      have hg := hb1.size
      clear r1 b1 hb1
      generalize bvals (List.replicate m 0) = Z at *
      go_wp2_with fail
      generalize w1.alloc (.cells Z 5) = W1 at *
      generalize w1.heap.size = g at *
      go_loopw [7] (fun i wr => ∃ k : Nat, k ≤ m ∧ i = .int .i64 (k : Int) ∧ BRow wr g 5 (fil c m k) ∧ Below w.heap.size w wr) (fun i _ => m - (intOf i).toNat)
      case atStart => exact ⟨0, by omega, rfl, R1.out, B1.out⟩
      case round =>
        clear R1 B1
        obtain ⟨k, hk, rfl, hr, hbel⟩ := hrel
        by_cases hlt : k < m
        · have hf := hr.frozen k
          obtain ⟨old, hold⟩ : ∃ old, wr.cell? ⟨g, k, none⟩ = some old := ⟨_, hr.cell (by rw [fil_len c hk]; exact hlt)⟩
          have HS := Lib.hid (hr.set k c)
          rw [fil_next c hlt] at HS
          have HB := Lib.hid (hbel.setCell (p := ⟨g, k, none⟩) hg (.int .u8 c))
          clear hr hbel
          go_wp2
          go_roundw
          case rel => exact ⟨k + 1, by omega, by go_num, HS.out, HB.out⟩
          case measure => simp [intOf]; omega
        · obtain rfl : k = m := by omega
          rw [fil_all] at hr
          have hy := hr.byt
          have hab : AllBytes (List.replicate k c) := fun z hz => by rw [(List.mem_replicate.1 hz).2]; exact hcb
          have C1 := Lib.hid (dsum_any (some ⟨g, 0, none⟩) k k (List.replicate k c) wr (HLA.out.below hbel (Nat.le_refl _)) hy (by simp) (Nat.le_refl _) (by unfold maxLen; omega) (by omega) (fun e => by cases e) hab (Nat.le_refl _))
          have C2 := Lib.hid (fun (X : World) (hX : Below wr.heap.size wr X) => rsum_dig (some ⟨g, 0, none⟩) k k (List.replicate k c) X (hy.below hX) (by simp) (by omega) (fun e => by cases e) hab hX.size)
          unfold DSumPost at C1 C2
          have heq := eq_dig (SH.sum_bytes (List.replicate k c)) (SH.sum_bytes (List.replicate k c)) (SH.sum_len _) (SH.sum_len _)
          rw [show (SH.sum (List.replicate k c) == SH.sum (List.replicate k c)) = true by simp] at heq
          have Hbel := Lib.hid hbel
          clear hr hy hbel hab
          generalize bvals (SH.sum (List.replicate k c)) = V at *
          have HEQ := Lib.hid heq
          clear heq hmk
          go_wp2_with fail
          refine C1.out.mono ?_
          rintro e w2 ⟨rfl, hb2⟩
          go_wp2_with fail
          refine (C2.out _ hb2).mono ?_
          rintro e w3 ⟨rfl, hb3⟩
          have heq := HEQ.out
          go_wp2
          go_ret
          exact ⟨rfl, Hbel.out.trans ((hb2.trans (hb3.mono hb2.size)).mono Hbel.out.size)⟩
end Go.Proofs.YtojmmjecfpdmoaaDoor
