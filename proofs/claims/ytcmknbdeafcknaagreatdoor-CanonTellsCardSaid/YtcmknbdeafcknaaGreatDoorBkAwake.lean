import Derived.Test.YtcmknbdeafcknaaGreatDoorGBkN
/-
  The laws' own 'awake' of layer 7 answers true, whatever the world (with the tables as they are laid), and writes nothing that was there.
-/
namespace Go.Proofs.YtcmknbdeafcknaaGreatDoor
open Go.RowKit WM
set_option linter.unusedVariables false
set_option maxRecDepth 100000
def z7 : List Int := [7, 0, 0, 0, 0, 0, 0, 0, 0, 0, 0, 0, 0, 0, 0, 0]
theorem z7_len : z7.length = 16 := rfl
theorem z7_bytes : AllBytes z7 := by unfold AllBytes z7; decide
def recX : Rc := ⟨z7, 0, 0, [⟨2, ⟨1, 1, ⟨#[120]⟩⟩⟩]⟩
def recY : Rc := ⟨z7, 2, 3, []⟩
theorem write_X : bwrite [] z7 2 1 ⟨#[120]⟩ = (0, [recX]) := rfl
theorem kill_X : bkill [recX] z7 3 = (0, [recY]) := rfl
theorem bat_X : bat [recX] z7 = some recX := rfl
theorem join_XY : bjE [recX] [recY] = (0, [recY]) := rfl
theorem leq_XY : bleq [recX] [recY] = true := by
  rw [bleq_eq, join_XY]
  simp [bsame_self]
theorem same_XY : bsame [recX] [recY] = false := by
  cases h : bsame [recX] [recY]
  · rfl
  · exact absurd (bsame_iff.1 h) (by unfold recX recY; simp)
theorem built_z7 : Tryz.prog.built 26 [(0, .int .u8 7)] = some (bvals z7) := by kernel_rfl
theorem build_z7 (w : World) : (Instr.build 26 #[(0, .int .u8 7)]).run Tryz.prog w = .ok (.agg (bvals z7)) w := run_build w _ _ _ built_z7
set_option maxHeartbeats 8000000 in
theorem bkAwake (w : World) (hlaid : Laid w) : Calls Tryz.prog 11 #[] w fun e w' => e = .returned (.bool true) ∧ Below w.heap.size w w' := by
  have HLA := Lib.hid (fun (X : World) (hX : Below w.heap.size w X) => hlaid.below hX (Nat.le_refl _))
  have hz : ∀ w : World, (zeroValue 24).run Tryz.prog w = .ok (.agg #[.slice none 0 0]) w := zeroBook
  have hzx := zeroX
  have hb0 := build_book0
  have hb7 := build_z7
  have HW := Lib.hid (bwrite_any bk0 z7 2 1 ⟨#[120]⟩ w hlaid (BkAt.zero w) z7_len z7_bytes)
  unfold BJoinPost at HW
  rw [show bk0.rs = [] from rfl, write_X] at HW
  have HW2 := Lib.hid (show Calls Tryz.prog 26 #[.agg #[.slice none 0 0], .agg (bvals z7), .int .i64 2, .int .i64 1, .string ⟨#[120]⟩] w _ from HW)
  clear hlaid HW
  go_enter Tryz.func11, Tryz.ntmps11
  go_wp2_with fail
  refine HW2.out.mono ?_
  rintro e w1 ⟨d, rfl, hd, hk, hb⟩
  have BA := (Below.refl w1.heap.size w1).alloc (Nat.le_refl _) (.cells #[.slice d.A d.xs.length d.c] 24)
  have HB := Lib.hid (hb.trans (BA.mono hb.size))
  have S1 := Lib.hid (BoAt.new w1 (.slice d.A d.xs.length d.c))
  have HD := Lib.hid hd
  have HK := Lib.hid (hk.below BA (Nat.le_refl _))
  have L1 := Lib.hid S1.out.load
  have HF := Lib.hid (bfind_any d z7 _ HK.out z7_len z7_bytes (fun x hx => by
    have hm : x.R ∈ d.rs := List.mem_map_of_mem hx
    rw [HD.out, List.mem_singleton] at hm
    rw [hm]
    decide))
  unfold BFindPost at HF
  rw [HD.out, bat_X] at HF
  dsimp only [Option.isSome_some, Option.getD_some] at HF
  clear hd hk hb BA
  go_wp2_with (first | ((with_reducible refine wpList_load_by (o := ⟨some 16, .load 24 (.tmp 1), _, _, _, _⟩) ?e1 24 (.tmp 1) ?e2 ⟨w1.heap.size, 0, none⟩ ?e3 _ L1.out ?_); (case e1 => rfl); (case e2 => rfl); (case e3 => rfl)))
  refine HF.out.mono ?_
  rintro e w2 ⟨y, rfl, hyR, hy, hb⟩
  have S2 := Lib.hid (S1.out.below hb S1.out.lt)
  have HB2 := Lib.hid (HB.out.trans (hb.mono HB.out.size))
  have HK2 := Lib.hid (HK.out.below hb (Nat.le_refl _))
  have HY := Lib.hid hy
  have HYR := Lib.hid hyR
  have ZY := Lib.hid hy.len
  clear hb hy hyR
  go_wp2_with (first | ((with_reducible refine wpList_store_newx (o := ⟨none, .store 33 (.tmp 3) (.tmp 19), _, _, _, _⟩) (w := w2) ?e1 (.tmp 3) (.tmp 19) ?e2 w2.heap.size ?e0 ?e3 y ?e4 ZY.out ?_); (case e1 => rfl); (case e2 => rfl); (case e0 => rfl); (case e3 => rfl); (case e4 => rfl); intro w3 hb3 hx3 hs3; have S3 := Lib.hid (S2.out.below hb3 S2.out.lt); have HB3 := Lib.hid (HB2.out.trans (hb3.mono HB2.out.size)); have HK3 := Lib.hid (HK2.out.below hb3 (Nat.le_refl _)); have L22 := Lib.hid hx3.load; have HRF := Lib.hid (xfind_any y 2 w3 (HY.out.below hb3 (Nat.le_refl _))); rw [HYR.out, show rfind recX.fs 2 = some ⟨1, 1, ⟨#[120]⟩⟩ from rfl] at HRF; dsimp only [Option.isSome_some, Option.getD_some, Cel.v] at HRF; clear hx3 hb3 hs3) | ((with_reducible refine wpList_load_by (o := ⟨some 22, .load 33 (.tmp 3), _, _, _, _⟩) ?e1 33 (.tmp 3) ?e2 ⟨w2.heap.size, 0, none⟩ ?e3 _ L22.out ?_); (case e1 => rfl); (case e2 => rfl); (case e3 => rfl)))
  refine HRF.out.mono ?_
  rintro e w4 ⟨rfl, hb⟩
  have BC := (Below.refl w4.heap.size w4).alloc (Nat.le_refl _) (.cells #[.int .i64 1, .int .i64 1, .string ⟨#[120]⟩] 57)
  have C5 := ClAt.new w4 ⟨1, 1, ⟨#[120]⟩⟩
  dsimp only at C5
  have HC5 := Lib.hid C5
  have hb' := hb.trans (BC.mono hb.size)
  have S5 := Lib.hid (S3.out.below hb' S3.out.lt)
  have HB5 := Lib.hid (HB3.out.trans (hb'.mono HB3.out.size))
  have HK5 := Lib.hid (HK3.out.below hb' (Nat.le_refl _))
  have L27 := Lib.hid S5.out.load
  have HKL := Lib.hid (bkill_any d z7 3 _ (HLA.out _ HB5.out) HK5.out z7_len z7_bytes)
  unfold BJoinPost at HKL
  rw [HD.out, kill_X] at HKL
  clear BC C5 hb hb'
  go_wp2_with (first | ((with_reducible refine wpList_load_by (o := ⟨some 27, .load 24 (.tmp 1), _, _, _, _⟩) ?e1 24 (.tmp 1) ?e2 ⟨w1.heap.size, 0, none⟩ ?e3 _ L27.out ?_); (case e1 => rfl); (case e2 => rfl); (case e3 => rfl)))
  refine HKL.out.mono ?_
  rintro e w6 ⟨d2, rfl, hd2, hk2, hb⟩
  obtain ⟨xs2, A2, c2⟩ := d2
  have hl1 : xs2.length = 1 := by have := congrArg List.length hd2; unfold Bk.rs at this; rwa [List.length_map] at this
  obtain ⟨x, rfl⟩ : ∃ x, xs2 = [x] := by
    match hm : xs2, hl1 with
    | [x], _ => exact ⟨x, rfl⟩
  have hxr : x.R = recY := by
    have h1 := hd2
    unfold Bk.rs at h1
    simpa using h1
  obtain ⟨hq1, hq2, hq3, hq4, _⟩ := hk2
  obtain ⟨b0, off, hA, hb0, hcc⟩ := hq4 (by simp)
  dsimp only at hA
  subst hA
  have hx0 : RecAt w6 b0 off x := by
    have := hcc 0 (by simp)
    rw [Nat.zero_mul, Nat.add_zero] at this
    exact this
  have x18 := hx0.c18
  rw [hxr] at x18
  have hk2 : BkAt w6 ⟨[x], some ⟨b0, off, none⟩, c2⟩ := ⟨hq1, hq2, hq3, hq4, by assumption⟩
  dsimp only [List.length_singleton] at hb ⊢
  have BA := (Below.refl w6.heap.size w6).alloc (Nat.le_refl _) (.cells #[.slice (some ⟨b0, off, none⟩) 1 c2] 24)
  have hb' := hb.trans (BA.mono hb.size)
  have S7 := Lib.hid (BoAt.new w6 (.slice (some ⟨b0, off, none⟩) 1 c2))
  have S6 := Lib.hid (S5.out.below hb' S5.out.lt)
  have HB6 := Lib.hid (HB5.out.trans (hb'.mono HB5.out.size))
  have HK6 := Lib.hid (HK5.out.below hb' (Nat.le_refl _))
  have HJ6 := Lib.hid (hk2.below BA (Nat.le_refl _))
  have HD2 := Lib.hid hd2
  have c5 := HC5.out.below hb' HC5.out.lt
  have k0 := c5.c0
  have k1 := c5.c1
  have k2 := c5.c2
  have L66 := Lib.hid S6.out.load
  have L67 := Lib.hid S7.out.load
  have HLQ := Lib.hid (bleq_any d ⟨[x], some ⟨b0, off, none⟩, c2⟩ _ (HLA.out _ HB6.out) HK6.out HJ6.out)
  dsimp only [List.length_singleton] at HLQ
  rw [HD.out, HD2.out, leq_XY] at HLQ
  have x18 := (BA.cell (p := ⟨b0, off + 18, none⟩) hb0).trans x18
  have hr0 : recY.fs.length = 0 := rfl
  rw [hr0] at x18
  have IX0 : ∀ w : World, (Instr.indexAt 22 (.slice (some ⟨b0, off, none⟩) 1 c2) (.int .i64 0)).run Tryz.prog w = .ok (.pointer (some ⟨b0, off, none⟩)) w := fun w => by
    have := ix_rec b0 off 1 c2 0 (by omega) 0 rfl w
    rwa [Nat.zero_mul, Nat.add_zero] at this
  generalize x.A = AA at x18
  generalize x.c = cc at x18
  clear BA hb hb' hd2 hk2 c5 hq1 hq2 hq3 hq4 hcc hx0 hl1 hxr hr0
  go_wp2_with (first | ((with_reducible refine wpList_load_by (o := ⟨some 66, .load 24 (.tmp 1), _, _, _, _⟩) ?e1 24 (.tmp 1) ?e2 ⟨w1.heap.size, 0, none⟩ ?e3 _ L66.out ?_); (case e1 => rfl); (case e2 => rfl); (case e3 => rfl)) | ((with_reducible refine wpList_load_by (o := ⟨some 67, .load 24 (.tmp 7), _, _, _, _⟩) ?e1 24 (.tmp 7) ?e2 ⟨w6.heap.size, 0, none⟩ ?e3 _ L67.out ?_); (case e1 => rfl); (case e2 => rfl); (case e3 => rfl)))
  refine HLQ.out.mono ?_
  rintro e w8 ⟨rfl, hb⟩
  have S8 := Lib.hid (S7.out.below hb S7.out.lt)
  have R8 := Lib.hid (S6.out.below hb S6.out.lt)
  have HB8 := Lib.hid (HB6.out.trans (hb.mono HB6.out.size))
  have HK8 := Lib.hid (HK6.out.below hb (Nat.le_refl _))
  have HJ8 := Lib.hid (HJ6.out.below hb (Nat.le_refl _))
  have L71 := Lib.hid S8.out.load
  have HMM := Lib.hid (bmay_any ⟨[x], some ⟨b0, off, none⟩, c2⟩ w8 HJ8.out)
  dsimp only [List.length_singleton] at HMM
  rw [HD2.out, show bmay [recY] = true from rfl] at HMM
  clear hb x18 k0 k1 k2
  go_wp2_with (first | ((with_reducible refine wpList_load_by (o := ⟨some 71, .load 24 (.tmp 7), _, _, _, _⟩) ?e1 24 (.tmp 7) ?e2 ⟨w6.heap.size, 0, none⟩ ?e3 _ L71.out ?_); (case e1 => rfl); (case e2 => rfl); (case e3 => rfl)))
  refine HMM.out.mono ?_
  rintro e w9 ⟨rfl, hb⟩
  have S9 := Lib.hid (S8.out.below hb S8.out.lt)
  have R9 := Lib.hid (R8.out.below hb R8.out.lt)
  have HB9 := Lib.hid (HB8.out.trans (hb.mono HB8.out.size))
  have L75 := Lib.hid R9.out.load
  have L76 := Lib.hid S9.out.load
  have HSS := Lib.hid (bsame_any d ⟨[x], some ⟨b0, off, none⟩, c2⟩ w9 (HK8.out.below hb (Nat.le_refl _)) (HJ8.out.below hb (Nat.le_refl _)))
  dsimp only [List.length_singleton] at HSS
  rw [HD.out, HD2.out, same_XY] at HSS
  clear hb
  go_wp2_with (first | ((with_reducible refine wpList_load_by (o := ⟨some 75, .load 24 (.tmp 1), _, _, _, _⟩) ?e1 24 (.tmp 1) ?e2 ⟨w1.heap.size, 0, none⟩ ?e3 _ L75.out ?_); (case e1 => rfl); (case e2 => rfl); (case e3 => rfl)) | ((with_reducible refine wpList_load_by (o := ⟨some 76, .load 24 (.tmp 7), _, _, _, _⟩) ?e1 24 (.tmp 7) ?e2 ⟨w6.heap.size, 0, none⟩ ?e3 _ L76.out ?_); (case e1 => rfl); (case e2 => rfl); (case e3 => rfl)))
  refine HSS.out.mono ?_
  rintro e wA ⟨rfl, hb⟩
  have HBA := Lib.hid (HB9.out.trans (hb.mono HB9.out.size))
  clear hb
  go_wp2
  go_ret
  exact ⟨rfl, HBA.out⟩
end Go.Proofs.YtcmknbdeafcknaaGreatDoor

