/-
  What sha.takeBlocks answers: the state behind whole blocks; nothing that was there is written.
-/
import Derived.Test.YtonbhcbkelmhgaaDoorShaBlock
namespace Go.Proofs.YtonbhcbkelmhgaaDoor
open Go.RowKit WM
set_option linter.unusedVariables false
def BlocksPost (s : SH.St) (zs : List Int) (w : World) (e : Ending) (w' : World) : Prop := e = .returned (.agg (vals (SH.all s zs).list)) ∧ Below w.heap.size w w'
theorem byt_part {w : World} {B b off : Nat} {zs : List Int} (hbB : b < B) (hc : ∀ i, i < zs.length → w.cell? ⟨b, off + i, none⟩ = some (.int .u8 (zs.getD i 0))) (l n : Nat) :
    Byt w B (some ⟨b, off + l, none⟩) ((zs.drop l).take n) := fun _ => by
  refine ⟨b, off + l, rfl, hbB, fun i hi => ?_⟩
  have hi' : i < n ∧ l + i < zs.length := by simp [Nat.lt_min] at hi; omega
  rw [Nat.add_assoc, hc (l + i) hi'.2]
  simp [List.getD, hi'.1]
theorem size8 (s : SH.St) : (Tryd.prog.info? 96).map (·.size) = some (vals s.list).size := by rw [sizeW8, vals_size, list_len]
set_option maxHeartbeats 1000000 in
set_option maxRecDepth 100000 in
theorem blocks_any {B : Nat} (s : SH.St) (hs : s.ok) (A : Option Addr) (len cap : Nat) (zs : List Int) (w : World) (hlaid : Laid w) (h : Byt w B A zs) (hl : zs.length = len) (h64 : len % 64 = 0) (hc : len ≤ cap) (hcm : cap ≤ maxLen) (hb : AllBytes zs) (hB : B ≤ w.heap.size) :
    Calls Tryd.prog 78 #[.agg (vals s.list), .slice A len cap] w (BlocksPost s zs w) := by
  unfold maxLen at hcm
  have hz8 := zeroW8
  have HY := Lib.hid h
  have HB := Lib.hid hb
  have HL := Lib.hid hl
  have HLA := Lib.hid hlaid
  have HO := Lib.hid hs
  have H64 := Lib.hid h64
  have HC := Lib.hid hc
  have HCM := Lib.hid hcm
  have hlen : len ≤ 9223372036854775807 := by omega
  have HP : Hid (∀ e w', e = .returned (.agg (vals (SH.all s zs).list)) → Below w.heap.size w w' → BlocksPost s zs w e w') := Lib.hid (fun _ _ h1 h2 => ⟨h1, h2⟩)
  clear h hl hb hlaid hs h64 hc hcm
  generalize hZ8 : vals (List.replicate 8 0) = Z8 at *
  generalize hV : vals s.list = V at *
  go_enter Tryd.func78, Tryd.ntmps78
  go_wp2_with fail
  go_loopw [5] (fun i wr => ∃ n m : Nat, m = 64 * n ∧ m ≤ len ∧ i = .int .i64 (m : Int) ∧ Row wr w.heap.size 96 (SH.blocks s zs n).list ∧ Row wr (w.heap.size + 1) 96 (List.replicate 8 0) ∧ Below w.heap.size w wr) (fun i _ => len - (intOf i).toNat)
  case atStart =>
    subst hZ8 hV
    refine ⟨0, 0, rfl, by omega, rfl, (Row.new w _ _).old _, ?_, ((Below.refl _ _).alloc (Nat.le_refl _) _).alloc (by simp) _⟩
    have := Row.new (w.alloc (.cells (vals s.list) 96)) 96 (List.replicate 8 0)
    rw [World.size_alloc] at this
    exact this
  case round =>
    obtain ⟨n, m, hm, hmle, rfl, hr0, hr1, hbel⟩ := hrel
    by_cases hlt : m < len
    · have hm64 : m + 64 ≤ len := by have := H64.out; omega
      have hne : zs ≠ [] := fun e => by have := HL.out; rw [e] at this; simp at this; omega
      obtain ⟨b, off, rfl, hbB, hcell⟩ := HY.out hne
      have hsl := fun w9 => sl_lh b off len cap m (m + 64) (by omega) (by have := HC.out; omega) (by have := HC.out; omega) (m : Int) ((m : Int) + 64) rfl (by omega) w9
      rw [Nat.add_sub_cancel_left] at hsl
      have hw64 : IntKind.i64.wrap ((m : Int) + 64) = (m : Int) + 64 := IntWalk.i64_in _ (by omega)
      have HM := Lib.hid hm
      have Hc := Lib.hid hcell
      clear hm hcell hne
      go_wp2_with fail
      refine wp_still_at 6 (by kernel_rfl) (by kernel_rfl) fun W2 hW2 => ?_
      have q0 : Row W2 w.heap.size 96 (SH.blocks s zs n).list := by rw [hW2]; exact hr0
      have q1 : Row W2 (w.heap.size + 1) 96 (List.replicate 8 0) := by rw [hW2]; exact hr1
      have q2 : Below w.heap.size w W2 := by rw [hW2]; exact hbel.drew
      clear hW2 hr0 hr1 hbel
      simp only [List.take_succ_cons, List.take_zero, List.drop_succ_cons, List.drop_zero]
      refine wpStill_load_row (o := ⟨some 12, .load 96 (.tmp 2), _, _, _, _⟩) rfl _ _ rfl w.heap.size (by rfl) 96 _ (0, 0) _ q0 Tryd.underlying96 rfl (size8 _) ?_
      have Q0 := Lib.hid q0
      have Q1 := Lib.hid q1
      have Q2 := Lib.hid q2
      have hz64 : ((zs.drop m).take 64).length = 64 := by rw [List.length_take, List.length_drop, HL.out]; omega
      have HK := Lib.hid (block_any (SH.blocks s zs n) (SH.blocks_ok zs HO.out n) (some ⟨b, off + m, none⟩) (cap - m) ((zs.drop m).take 64) W2 (HLA.out.below q2 (Nat.le_refl _)) (byt_part hbB (fun i hi => (q2.cell (by simp only; omega)).trans (Hc.out i hi)) m 64) hz64 (all_take (all_drop HB.out m) 64) (Nat.le_trans hB q2.size))
      unfold BlockPost at HK
      have HN := Lib.hid (show SH.blocks s zs (n + 1) = SH.blk (SH.blocks s zs n) ((zs.drop m).take 64) by rw [SH.blocks, HM.out])
      clear q0 q1 q2 hz64
      have hI := Lib.hid (size8 (SH.blk (SH.blocks s zs n) ((zs.drop m).take 64)))
      have hZT := Lib.hid (show (vals (SH.blocks s zs n).list).size = (vals (SH.blk (SH.blocks s zs n) ((zs.drop m).take 64)).list).size by rw [vals_size, vals_size, list_len, list_len])
      have h1 := Lib.hid (vals_one (SH.blk (SH.blocks s zs n) ((zs.drop m).take 64)).list)
      have HR := Lib.hid (fun (w1 : World) (hb : Below W2.heap.size W2 w1) => (Q0.out.below hb Q0.out.lt).put (SH.blk (SH.blocks s zs n) ((zs.drop m).take 64)).list)
      have HR0 := Lib.hid (fun (w1 : World) (hb : Below W2.heap.size W2 w1) => Q0.out.below hb Q0.out.lt)
      have HR1 := Lib.hid (fun (w1 : World) (hb : Below W2.heap.size W2 w1) => (Q1.out.below hb Q1.out.lt).putOther (k := w.heap.size) (by omega) (vals (SH.blk (SH.blocks s zs n) ((zs.drop m).take 64)).list))
      have HBE := Lib.hid (fun (w1 : World) (hb : Below W2.heap.size W2 w1) => below_setRow (Q2.out.trans (hb.mono Q2.out.size)) (Nat.le_refl _) (vals (SH.blk (SH.blocks s zs n) ((zs.drop m).take 64)).list))
      rw [← HN.out] at HK hI hZT h1 HR HR1 HBE
      unfold Row at HR0
      obtain ⟨r1, hr1e⟩ : ∃ r1, SH.blocks s zs (n + 1) = r1 := ⟨_, rfl⟩
      have HN' := Lib.hid hr1e
      rw [hr1e] at HK hI hZT h1 HR HR1 HBE
      clear hr1e HN
      generalize (SH.blocks s zs n) = r0 at *
      generalize vals r0.list = V0 at *
      generalize hV1 : vals r1.list = V1 at *
      repeat still_step
      refine wpStill_nil ?_
      go_wp2_with fail
      refine HK.out.mono ?_
      rintro e w1 ⟨rfl, hb1⟩
      have g0 := Lib.hid (HR0.out w1 hb1)
      go_wp2_with (first | ((with_reducible refine wpList_store_row (o := ⟨none, .store 96 (.tmp 2) (.tmp 18), _, _, _, _⟩) ?e1 96 (.tmp 2) (.tmp 18) ?e2 w.heap.size V1 ?e3 ?e4 96 V0 g0.out hI.out hZT.out h1.out ?_); (case e1 => rfl); (case e2 => rfl); (case e3 => rfl); (case e4 => rfl)))
      go_roundw
      case rel =>
        subst hV1
        refine ⟨n + 1, m + 64, by rw [HM.out]; omega, hm64, by go_num, ?_, HR1.out w1 hb1, HBE.out w1 hb1⟩
        rw [HN'.out]
        exact HR.out w1 hb1
      case measure => simp [intOf]; omega
    · obtain rfl : m = len := by omega
      have he : SH.blocks s zs n = SH.all s zs := by rw [SH.all, HL.out, hm, Nat.mul_div_cancel_left _ (by decide)]
      rw [he] at hr0
      have hI8 := Lib.hid (size8 (SH.all s zs))
      have hZT8 := Lib.hid (show (vals (List.replicate 8 0)).size = (vals (SH.all s zs).list).size by rw [vals_size, vals_size, list_len, List.length_replicate])
      have hput := Lib.hid (hr1.put (SH.all s zs).list)
      have hbp := Lib.hid (below_setRow hbel (g := w.heap.size + 1) (by omega) (vals (SH.all s zs).list))
      have h18 := Lib.hid (vals_one (SH.all s zs).list)
      unfold Row at hr1 hr0 hput
      have Hr1 := Lib.hid hr1
      have Hr0 := Lib.hid hr0
      clear hr1 hr0 hbel he hm
      generalize vals (SH.all s zs).list = R at *
      go_wp2_with (first | ((with_reducible refine wpList_load_row (o := ⟨some 19, .load 96 (.tmp 2), _, _, _, _⟩) ?e1 96 (.tmp 2) ?e2 w.heap.size ?e3 96 R (0, 0) _ Hr0.out Tryd.underlying96 ?e4 hI8.out ?_); (case e1 => rfl); (case e2 => rfl); (case e3 => rfl); (case e4 => rfl)) | ((with_reducible refine wpList_store_row (o := ⟨none, .store 96 (.tmp 4) (.tmp 19), _, _, _, _⟩) ?e1 96 (.tmp 4) (.tmp 19) ?e2 (w.heap.size + 1) R ?e3 ?e4 96 _ Hr1.out hI8.out hZT8.out h18.out ?_); (case e1 => rfl); (case e2 => rfl); (case e3 => rfl); (case e4 => rfl)))
      exact bodyPost_ret (v := .agg R) (by exact results_cell_row Tryd.results78 _ _ (w.heap.size + 1) 96 R (0, 0) _ rfl hput.out Tryd.underlying96 rfl hI8.out) (by rfl) (HP.out _ _ rfl hbp.out)
end Go.Proofs.YtonbhcbkelmhgaaDoor
