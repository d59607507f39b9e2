/-
  What sha.takeBlock answers: the state behind one block more; nothing that was there is written.
-/
import Derived.Test.YtonbhcbkelmhgaaDoorShaRound
namespace Go.Proofs.YtonbhcbkelmhgaaDoor
open Go.RowKit WM
set_option linter.unusedVariables false
/-- What stands in memory while a block is taken. -/
def InBlock (s : SH.St) (W : List Nat) (w : World) (g : Nat) (wr : World) : Prop :=
  Row wr w.heap.size 96 s.list ∧ Row wr (w.heap.size + 1) 96 (List.replicate 8 0) ∧ Row wr g 101 W ∧ Laid wr ∧ Below w.heap.size w wr
theorem InBlock.drew {s : SH.St} {W : List Nat} {w : World} {g : Nat} {wr : World} (h : InBlock s W w g wr) (n : Nat) : InBlock s W w g (wr.drewN n) :=
  ⟨h.1, h.2.1, h.2.2.1, h.2.2.2.1, below_drewN h.2.2.2.2 n⟩
theorem index8_0 (r : SH.St) (w : World) : (Instr.index 96 (.agg #[.int .u32 (r.a : Int), .int .u32 (r.b : Int), .int .u32 (r.c : Int), .int .u32 (r.d : Int), .int .u32 (r.e : Int), .int .u32 (r.f : Int), .int .u32 (r.g : Int), .int .u32 (r.h : Int)]) (.int .i64 ((0 : Nat) : Int))).run Tryd.prog w = .ok (.int .u32 (r.list.getD 0 0 : Nat)) w := by kernel_rfl
theorem index8_1 (r : SH.St) (w : World) : (Instr.index 96 (.agg #[.int .u32 (r.a : Int), .int .u32 (r.b : Int), .int .u32 (r.c : Int), .int .u32 (r.d : Int), .int .u32 (r.e : Int), .int .u32 (r.f : Int), .int .u32 (r.g : Int), .int .u32 (r.h : Int)]) (.int .i64 ((1 : Nat) : Int))).run Tryd.prog w = .ok (.int .u32 (r.list.getD 1 0 : Nat)) w := by kernel_rfl
theorem index8_2 (r : SH.St) (w : World) : (Instr.index 96 (.agg #[.int .u32 (r.a : Int), .int .u32 (r.b : Int), .int .u32 (r.c : Int), .int .u32 (r.d : Int), .int .u32 (r.e : Int), .int .u32 (r.f : Int), .int .u32 (r.g : Int), .int .u32 (r.h : Int)]) (.int .i64 ((2 : Nat) : Int))).run Tryd.prog w = .ok (.int .u32 (r.list.getD 2 0 : Nat)) w := by kernel_rfl
theorem index8_3 (r : SH.St) (w : World) : (Instr.index 96 (.agg #[.int .u32 (r.a : Int), .int .u32 (r.b : Int), .int .u32 (r.c : Int), .int .u32 (r.d : Int), .int .u32 (r.e : Int), .int .u32 (r.f : Int), .int .u32 (r.g : Int), .int .u32 (r.h : Int)]) (.int .i64 ((3 : Nat) : Int))).run Tryd.prog w = .ok (.int .u32 (r.list.getD 3 0 : Nat)) w := by kernel_rfl
theorem index8_4 (r : SH.St) (w : World) : (Instr.index 96 (.agg #[.int .u32 (r.a : Int), .int .u32 (r.b : Int), .int .u32 (r.c : Int), .int .u32 (r.d : Int), .int .u32 (r.e : Int), .int .u32 (r.f : Int), .int .u32 (r.g : Int), .int .u32 (r.h : Int)]) (.int .i64 ((4 : Nat) : Int))).run Tryd.prog w = .ok (.int .u32 (r.list.getD 4 0 : Nat)) w := by kernel_rfl
theorem index8_5 (r : SH.St) (w : World) : (Instr.index 96 (.agg #[.int .u32 (r.a : Int), .int .u32 (r.b : Int), .int .u32 (r.c : Int), .int .u32 (r.d : Int), .int .u32 (r.e : Int), .int .u32 (r.f : Int), .int .u32 (r.g : Int), .int .u32 (r.h : Int)]) (.int .i64 ((5 : Nat) : Int))).run Tryd.prog w = .ok (.int .u32 (r.list.getD 5 0 : Nat)) w := by kernel_rfl
theorem index8_6 (r : SH.St) (w : World) : (Instr.index 96 (.agg #[.int .u32 (r.a : Int), .int .u32 (r.b : Int), .int .u32 (r.c : Int), .int .u32 (r.d : Int), .int .u32 (r.e : Int), .int .u32 (r.f : Int), .int .u32 (r.g : Int), .int .u32 (r.h : Int)]) (.int .i64 ((6 : Nat) : Int))).run Tryd.prog w = .ok (.int .u32 (r.list.getD 6 0 : Nat)) w := by kernel_rfl
theorem index8_7 (r : SH.St) (w : World) : (Instr.index 96 (.agg #[.int .u32 (r.a : Int), .int .u32 (r.b : Int), .int .u32 (r.c : Int), .int .u32 (r.d : Int), .int .u32 (r.e : Int), .int .u32 (r.f : Int), .int .u32 (r.g : Int), .int .u32 (r.h : Int)]) (.int .i64 ((7 : Nat) : Int))).run Tryd.prog w = .ok (.int .u32 (r.list.getD 7 0 : Nat)) w := by kernel_rfl
theorem index8 (r : SH.St) {k : Nat} (hk : k < 8) (w : World) : (Instr.index 96 (.agg #[.int .u32 (r.a : Int), .int .u32 (r.b : Int), .int .u32 (r.c : Int), .int .u32 (r.d : Int), .int .u32 (r.e : Int), .int .u32 (r.f : Int), .int .u32 (r.g : Int), .int .u32 (r.h : Int)]) (.int .i64 (k : Int))).run Tryd.prog w = .ok (.int .u32 (r.list.getD k 0 : Nat)) w := by
  have h : k = 0 ∨ k = 1 ∨ k = 2 ∨ k = 3 ∨ k = 4 ∨ k = 5 ∨ k = 6 ∨ k = 7 := by omega
  rcases h with rfl | rfl | rfl | rfl | rfl | rfl | rfl | rfl
  · exact index8_0 r w
  · exact index8_1 r w
  · exact index8_2 r w
  · exact index8_3 r w
  · exact index8_4 r w
  · exact index8_5 r w
  · exact index8_6 r w
  · exact index8_7 r w
theorem list_len (s : SH.St) : s.list.length = 8 := rfl
set_option maxHeartbeats 1000000 in
set_option maxRecDepth 100000 in
theorem block_any {B : Nat} (s : SH.St) (hs : s.ok) (A : Option Addr) (cap : Nat) (zs : List Int) (w : World) (hlaid : Laid w) (h : Byt w B A zs) (hl : zs.length = 64) (hb : AllBytes zs) (hB : B ≤ w.heap.size) :
    Calls Tryd.prog 82 #[.agg (vals s.list), .slice A (64 : Nat) cap] w (BlockPost s zs w) := by
  have hz := zeroW64
  have hz8 := zeroW8
  have HW := Lib.hid (fun (w' : World) (hw : Below w.heap.size w w') => words_any A cap zs w' (h.below (hw.mono hB)) hl hb (Nat.le_trans hB hw.size))
  unfold WordsPost at HW
  have HLA := Lib.hid hlaid
  have HO := Lib.hid hs
  have HP : Hid (∀ e w', e = .returned (.agg (vals (SH.blk s zs).list)) → Below w.heap.size w w' → BlockPost s zs w e w') := Lib.hid (fun _ _ h1 h2 => ⟨h1, h2⟩)
  have hwl := SH.ws_len zs 64
  have HE := Lib.hid (show SH.blk s zs = s.plus (SH.rnds s (SH.ws zs 64) 64) from rfl)
  clear h hl hb hlaid hs
  generalize SH.ws zs 64 = T at *
  have hI := Lib.hid (show (Tryd.prog.info? 101).map (·.size) = some (vals T).size by rw [sizeW64, vals_size, hwl])
  have hZT := Lib.hid (show (vals (List.replicate 64 0)).size = (vals T).size by rw [vals_size, vals_size, hwl]; rfl)
  have h1 := Lib.hid (vals_one T)
  have HWL := Lib.hid hwl
  clear hwl
  generalize hZ : vals (List.replicate 64 0) = Z at *
  generalize hZ8 : vals (List.replicate 8 0) = Z8 at *
  generalize hVT : vals T = VT at *
  generalize hV : vals s.list = V at *
  go_enter Tryd.func82, Tryd.ntmps82
  go_wp2_with fail
  have hb0 : Below w.heap.size w ((w.alloc (Obj.cells V 96)).alloc (Obj.cells Z8 96)) := ((Below.refl _ _).alloc (Nat.le_refl _) _).alloc (by simp) _
  refine (HW.out _ hb0).mono ?_
  rintro e w1 ⟨rfl, hb1⟩
  have hput := Lib.hid (put64 w1 Z VT)
  have hnew := Lib.hid (heap_alloc_new w1 (.cells Z 101))
  go_wp2_with (first | ((with_reducible refine wpList_store_row (o := ⟨none, .store 101 (.tmp 5) (.tmp 20), _, _, _, _⟩) ?e1 101 (.tmp 5) (.tmp 20) ?e2 w1.heap.size VT ?e3 ?e4 101 Z hnew.out hI.out hZT.out h1.out ?_); (case e1 => rfl); (case e2 => rfl); (case e3 => rfl); (case e4 => rfl); rw [hput.out]))
  have hin : InBlock s T w w1.heap.size (w1.alloc (.cells VT 101)) := by
    rw [World.size_alloc, World.size_alloc] at hb1
    have hs1 := hb1.size
    rw [World.size_alloc, World.size_alloc] at hs1
    have hbw : Below w.heap.size w (w1.alloc (.cells VT 101)) := (hb0.trans (hb1.mono (by omega))).alloc (by omega) _
    subst hVT hV hZ8
    refine ⟨?_, ?_, Row.new w1 _ _, HLA.out.below hbw (Nat.le_refl _), hbw⟩
    · exact (((Row.new w 96 s.list).old _).below hb1 (by omega)).old _
    · have := Row.new (w.alloc (.cells (vals s.list) 96)) 96 (List.replicate 8 0)
      rw [World.size_alloc] at this
      exact (this.below hb1 (by omega)).old _
  have Hin := Lib.hid hin
  have Hg : Hid (w.heap.size + 2 ≤ w1.heap.size) := Lib.hid (by have := hb1.size; rw [World.size_alloc, World.size_alloc] at this; omega)
  clear hin hb1 hput hnew hb0 HW
  generalize w1.alloc (.cells VT 101) = W1 at *
  generalize w1.heap.size = g at *
  have c0 : W1.cell? ⟨w.heap.size, 0, none⟩ = some (.int .u32 (s.a : Int)) := Hin.out.1.cell (j := 0) (by simp [SH.St.list])
  have c1 : W1.cell? ⟨w.heap.size, 1, none⟩ = some (.int .u32 (s.b : Int)) := Hin.out.1.cell (j := 1) (by simp [SH.St.list])
  have c2 : W1.cell? ⟨w.heap.size, 2, none⟩ = some (.int .u32 (s.c : Int)) := Hin.out.1.cell (j := 2) (by simp [SH.St.list])
  have c3 : W1.cell? ⟨w.heap.size, 3, none⟩ = some (.int .u32 (s.d : Int)) := Hin.out.1.cell (j := 3) (by simp [SH.St.list])
  have c4 : W1.cell? ⟨w.heap.size, 4, none⟩ = some (.int .u32 (s.e : Int)) := Hin.out.1.cell (j := 4) (by simp [SH.St.list])
  have c5 : W1.cell? ⟨w.heap.size, 5, none⟩ = some (.int .u32 (s.f : Int)) := Hin.out.1.cell (j := 5) (by simp [SH.St.list])
  have c6 : W1.cell? ⟨w.heap.size, 6, none⟩ = some (.int .u32 (s.g : Int)) := Hin.out.1.cell (j := 6) (by simp [SH.St.list])
  have c7 : W1.cell? ⟨w.heap.size, 7, none⟩ = some (.int .u32 (s.h : Int)) := Hin.out.1.cell (j := 7) (by simp [SH.St.list])
  go_quiet (fail)
  go_wp2_with fail
  go_quiet (fail)
  go_wp2_with fail
  clear c0 c1 c2 c3 c4 c5 c6 c7
  go_loopw [6, 7, 8, 9, 10, 11, 12, 13, 37] (fun xa xb xc xd xe xf xg xh i wr => ∃ k : Nat, k ≤ 64 ∧ i = .int .i64 k ∧ xa = .int .u32 ((SH.rnds s T k).a : Int) ∧ xb = .int .u32 ((SH.rnds s T k).b : Int) ∧ xc = .int .u32 ((SH.rnds s T k).c : Int) ∧ xd = .int .u32 ((SH.rnds s T k).d : Int) ∧ xe = .int .u32 ((SH.rnds s T k).e : Int) ∧ xf = .int .u32 ((SH.rnds s T k).f : Int) ∧ xg = .int .u32 ((SH.rnds s T k).g : Int) ∧ xh = .int .u32 ((SH.rnds s T k).h : Int) ∧ InBlock s T w g wr) (fun _ _ _ _ _ _ _ _ i _ => 64 - (intOf i).toNat)
  case atStart =>
    first | exact ⟨0, by omega, rfl, rfl, rfl, rfl, rfl, rfl, rfl, rfl, rfl, (Hin.out.drew _).drew _⟩ | exact ⟨0, by omega, rfl, rfl, rfl, rfl, rfl, rfl, rfl, rfl, rfl, Hin.out.drew _⟩
  case round =>
    clear Hin
    obtain ⟨k, hk, rfl, rfl, rfl, rfl, rfl, rfl, rfl, rfl, rfl, hin⟩ := hrel
    have hok := SH.rnds_ok T HO.out k
    by_cases hlt : k < 64
    · have ck : wr.cell? ⟨1, k, none⟩ = some (.int .u32 (SH.K.getD k 0 : Nat)) := hin.2.2.2.1.2.1 k hlt
      have cw : wr.cell? ⟨g, k, none⟩ = some (.int .u32 (T.getD k 0 : Nat)) := hin.2.2.1.cell (by rw [HWL.out]; exact hlt)
      obtain ⟨p1, S1, q1, ef, ne, eg, c, q2, q3, t, p2, S0, ab, ac, bc, o1, m, u, na, nd, ⟨e1, e2, e3, e4, e5, e6, e7, e8, e9, e10⟩, ⟨f1, f2, f3, f4, f5, f6, f7, f8⟩, ⟨f9, f10⟩, hnext⟩ := round_vals (SH.rnds s T k) hok (SH.K.getD k 0) (T.getD k 0)
      have HN := Lib.hid (show SH.rnds s T (k + 1) = _ from hnext)
      have Hin := Lib.hid hin
      have tE := Lib.hid (fun (n : Int) (w : World) => turned_int (SH.rnds s T k).e n w hok.2.2.2.2.1)
      have tA := Lib.hid (fun (n : Int) (w : World) => turned_int (SH.rnds s T k).a n w hok.1)
      clear hok hnext hin
      generalize SH.K.getD k 0 = Kk at *
      generalize T.getD k 0 = Wk at *
      generalize (SH.rnds s T k).a = sa at *
      generalize (SH.rnds s T k).b = sb at *
      generalize (SH.rnds s T k).c = sc at *
      generalize (SH.rnds s T k).d = sd at *
      generalize (SH.rnds s T k).e = se at *
      generalize (SH.rnds s T k).f = sf at *
      generalize (SH.rnds s T k).g = sg at *
      generalize (SH.rnds s T k).h = sh at *
      have HA := Lib.hid (show (((q1 : Int) + (c : Int) + (Kk : Int) + (Wk : Int)) % 4294967296 + (u : Int)) % 4294967296 = (na : Int) by omega)
      have HD := Lib.hid (show ((sd : Int) + ((q1 : Int) + (c : Int) + (Kk : Int) + (Wk : Int)) % 4294967296) % 4294967296 = (nd : Int) by omega)
      go_wp2_with fail
      go_quiet (refine Calls.quiet_of_same (tE.out _ _ (by decide) (by decide)))
      go_wp2_with fail
      refine (tA.out _ _ (by decide) (by decide)).mono ?_
      rintro e w1 ⟨rfl, rfl⟩
      go_wp2_with fail
      refine (tA.out _ _ (by decide) (by decide)).mono ?_
      rintro e w1 ⟨rfl, rfl⟩
      go_wp2_with fail
      refine (tA.out _ _ (by decide) (by decide)).mono ?_
      rintro e w1 ⟨rfl, rfl⟩
      go_wp2
      go_roundw
      case rel =>
        exact ⟨k + 1, by omega, by go_num, by rw [HN.out, HA.out], by rw [HN.out], by rw [HN.out], by rw [HN.out], by rw [HN.out, HD.out], by rw [HN.out], by rw [HN.out], by rw [HN.out], Hin.out.drew _⟩
      case measure => simp [intOf]; omega
    · obtain rfl : k = 64 := by omega
      generalize SH.rnds s T 64 = r at *
      have hz8' : ∀ w9 : World, (zeroValue 96).run Tryd.prog w9 = .ok (.agg #[.int .u32 0, .int .u32 0, .int .u32 0, .int .u32 0, .int .u32 0, .int .u32 0, .int .u32 0, .int .u32 0]) w9 := fun w9 => zeroW8 w9
      clear hz8 hz
      obtain ⟨hr0, hr1, _, _, hbel⟩ := hin
      have Hr0 := Lib.hid hr0
      have Hr1 := Lib.hid hr1
      have Hbel := Lib.hid hbel
      clear hr0 hr1 hbel
      go_wp2_with fail
      go_loopw [109] (fun i wr => ∃ k : Nat, k ≤ 8 ∧ i = .int .i64 k ∧ Row wr w.heap.size 96 (SH.mix s r k) ∧ Row wr (w.heap.size + 1) 96 (List.replicate 8 0) ∧ Below w.heap.size w wr) (fun i _ => 8 - (intOf i).toNat)
      case atStart => exact ⟨0, by omega, rfl, by rw [SH.mix_zero]; exact Hr0.out, Hr1.out, Hbel.out⟩
      case round =>
        clear Hr0 Hr1 Hbel
        obtain ⟨j, hj, rfl, hr0, hr1, hbel⟩ := hrel
        by_cases hlt : j < 8
        · have hix := index8 r hlt
          have hc := hr0.cell (j := j) (by rw [SH.mix_len]; exact hlt)
          rw [SH.mix_get s r hlt] at hc
          have hf := hr0.frozen j
          have hsum := u32_sum (s.list.getD j 0) (r.list.getD j 0)
          have HS := Lib.hid (hr0.set j (SH.add (s.list.getD j 0) (r.list.getD j 0)))
          rw [SH.mix_next s r hlt] at HS
          have HR := Lib.hid (hr1.other (a := ⟨w.heap.size, j, none⟩) (by simp only; omega) (.int .u32 (SH.add (s.list.getD j 0) (r.list.getD j 0) : Nat)))
          have HBE := Lib.hid (hbel.setCell (p := ⟨w.heap.size, j, none⟩) (Nat.le_refl _) (.int .u32 (SH.add (s.list.getD j 0) (r.list.getD j 0) : Nat)))
          clear hr0 hr1 hbel
          generalize SH.add (s.list.getD j 0) (r.list.getD j 0) = v at *
          generalize s.list.getD j 0 = x at *
          generalize r.list.getD j 0 = y at *
          go_wp2
          go_roundw
          case rel => first | exact ⟨j + 1, by omega, by go_num, HS.out, HR.out, HBE.out⟩ | ((repeat apply Exists.intro); exact ⟨⟨j + 1, by omega, by go_num, HS.out, HR.out, HBE.out⟩, rfl⟩)
          case measure => simp [intOf]; omega
        · obtain rfl : j = 8 := by omega
          rw [SH.mix_all] at hr0
          rw [← HE.out] at hr0
          have hI8 := Lib.hid (show (Tryd.prog.info? 96).map (·.size) = some (vals (SH.blk s zs).list).size by rw [sizeW8, vals_size, list_len])
          have hZT8 := Lib.hid (show (vals (List.replicate 8 0)).size = (vals (SH.blk s zs).list).size by rw [vals_size, vals_size, list_len, List.length_replicate])
          have hput := Lib.hid (hr1.put (SH.blk s zs).list)
          have hbp := Lib.hid (below_setRow hbel (g := w.heap.size + 1) (by omega) (vals (SH.blk s zs).list))
          have h18 := Lib.hid (vals_one (SH.blk s zs).list)
          unfold Row at hr1 hr0 hput
          have Hr1 := Lib.hid hr1
          have Hr0 := Lib.hid hr0
          clear hr1 hr0 hbel
          generalize vals (SH.blk s zs).list = R at *
          go_wp2_with (first | ((with_reducible refine wpList_load_row (o := ⟨some 120, .load 96 (.tmp 2), _, _, _, _⟩) ?e1 96 (.tmp 2) ?e2 w.heap.size ?e3 96 R (0, 0) _ Hr0.out Tryd.underlying96 ?e4 hI8.out ?_); (case e1 => rfl); (case e2 => rfl); (case e3 => rfl); (case e4 => rfl)) | ((with_reducible refine wpList_store_row (o := ⟨none, .store 96 (.tmp 4) (.tmp 120), _, _, _, _⟩) ?e1 96 (.tmp 4) (.tmp 120) ?e2 (w.heap.size + 1) R ?e3 ?e4 96 _ Hr1.out hI8.out hZT8.out h18.out ?_); (case e1 => rfl); (case e2 => rfl); (case e3 => rfl); (case e4 => rfl)))
          exact bodyPost_ret (v := .agg R) (by exact results_cell_row Tryd.results82 _ _ (w.heap.size + 1) 96 R (0, 0) _ rfl hput.out Tryd.underlying96 rfl hI8.out) (by rfl) (HP.out _ _ rfl hbp.out)
end Go.Proofs.YtonbhcbkelmhgaaDoor
