import Derived.Test.YtcmknbdeafcknaaGreatDoorCaAwake
import Derived.Test.YtcmknbdeafcknaaGreatDoorCaMath2
import Derived.Test.YtcmknbdeafcknaaGreatDoorBkFew
import Derived.Test.YtcmknbdeafcknaaGreatDoorGArgs
/-
  The law CanonMore: for every book, byte and place it answers true, and nothing that was there is written.
-/
namespace Go.Proofs.YtcmknbdeafcknaaGreatDoor
open Go.RowKit WM
set_option linter.unusedVariables false
set_option maxRecDepth 100000
theorem byt_one (w : World) (c : Int) : Byt (w.alloc (.cells #[.int .u8 c] 5)) (w.alloc (.cells #[.int .u8 c] 5)).heap.size (some ⟨w.heap.size, 0, none⟩) [c] := fun _ => ⟨w.heap.size, 0, rfl, by rw [World.size_alloc]; omega, fun i hi => by
  obtain rfl : i = 0 := by simpa using hi
  have hh : (w.alloc (.cells #[.int .u8 c] 5)).heap[w.heap.size]? = some (.cells #[.int .u8 c] 5) := heap_alloc_new w _
  rw [cell_of_row _ _ _ _ _ _ hh]; rfl⟩
set_option maxHeartbeats 8000000 in
theorem cmore_00 (b : Bk) (c k : Int) (w : World) (hlaid : Laid w) (wb : BkAt w b) (wc : (Lit.int .u8 c).wf = true) (wk : (Lit.int .i64 k).wf = true) (iP : fewB b.rs = false) (iM : bmay b.rs = false) :
    Calls Tryz.prog 7 #[.agg #[.slice b.A b.xs.length b.c], .int .u8 c, .int .i64 k] w fun e w' => e = .returned (.bool true) ∧ Below w.heap.size w w' := by
  have HLA := Lib.hid (fun (X : World) (hX : Below w.heap.size w X) => hlaid.below hX (Nat.le_refl _))
  have Fb := Lib.hid wb
  have hz : ∀ w : World, (zeroValue 24).run Tryz.prog w = .ok (.agg #[.slice none 0 0]) w := zeroBook
  have hok := bk_ok wb
  have PB := Lib.hid iP
  have MB := Lib.hid iM
  clear iP iM hlaid wb hok wc wk
  have B1 := Lib.hid (Below.refl w.heap.size w)
  have T2n := BoAt.new w (.slice b.A b.xs.length b.c)
  have T2 := Lib.hid T2n
  clear T2n
  have B3 := Lib.hid (B1.out.alloc B1.out.size (.cells #[(.slice b.A b.xs.length b.c)] 24))
  have F4 := Lib.hid (Fb.out.below B3.out (Nat.le_refl _))
  go_enter Tryz.func7, Tryz.ntmps7
  have C5 := Lib.hid (caAwake (w.alloc (.cells #[(.slice b.A b.xs.length b.c)] 24)) (HLA.out _ B3.out))
  go_wp2_with fail
  refine C5.out.mono ?_
  rintro e w6 ⟨rfl, hb7⟩
  have T8 := Lib.hid (T2.out.below hb7 T2.out.lt)
  have F9 := Lib.hid (F4.out.below hb7 (Nat.le_refl _))
  have B10 := Lib.hid (B3.out.trans (hb7.mono B3.out.size))
  clear hb7
  have M11 := Lib.hid (T8.out.load)
  have C12 := Lib.hid (fewB_any b w6 F9.out)
  rw [PB.out] at C12
  go_wp2_with (first | ((with_reducible refine wpList_load_by (o := ⟨some 16, .load 24 (.tmp 3), _, _, _, _⟩) ?e1 24 (.tmp 3) ?e2 ⟨w.heap.size, 0, none⟩ ?e3 _ M11.out ?_); (case e1 => rfl); (case e2 => rfl); (case e3 => rfl)))
  refine C12.out.mono ?_
  rintro e w13 ⟨rfl, hb14⟩
  have T15 := Lib.hid (T8.out.below hb14 T8.out.lt)
  have F16 := Lib.hid (F9.out.below hb14 (Nat.le_refl _))
  have B17 := Lib.hid (B10.out.trans (hb14.mono B10.out.size))
  clear hb14
  have M18 := Lib.hid (T15.out.load)
  have c19 := put_book b w13 F16.out
  unfold PutPost at c19
  simp only [MB.out, Bool.false_eq_true, if_false] at c19
  have C20 := Lib.hid (c19)
  clear c19
  go_wp2_with (first | ((with_reducible refine wpList_load_by (o := ⟨some 19, .load 24 (.tmp 3), _, _, _, _⟩) ?e1 24 (.tmp 3) ?e2 ⟨w.heap.size, 0, none⟩ ?e3 _ M18.out ?_); (case e1 => rfl); (case e2 => rfl); (case e3 => rfl)))
  refine C20.out.mono ?_
  rintro e w21 ⟨rfl, hb22⟩
  have T23 := Lib.hid (T15.out.below hb22 T15.out.lt)
  have F24 := Lib.hid (F16.out.below hb22 (Nat.le_refl _))
  have B25 := Lib.hid (B17.out.trans (hb22.mono B17.out.size))
  clear hb22
  go_wp2
  go_ret
  exact ⟨rfl, B25.out⟩
set_option maxHeartbeats 8000000 in
theorem cmore_01 (b : Bk) (c k : Int) (w : World) (hlaid : Laid w) (wb : BkAt w b) (wc : (Lit.int .u8 c).wf = true) (wk : (Lit.int .i64 k).wf = true) (iP : fewB b.rs = false) (iM : bmay b.rs = true) :
    Calls Tryz.prog 7 #[.agg #[.slice b.A b.xs.length b.c], .int .u8 c, .int .i64 k] w fun e w' => e = .returned (.bool true) ∧ Below w.heap.size w w' := by
  have HLA := Lib.hid (fun (X : World) (hX : Below w.heap.size w X) => hlaid.below hX (Nat.le_refl _))
  have Fb := Lib.hid wb
  have hz : ∀ w : World, (zeroValue 24).run Tryz.prog w = .ok (.agg #[.slice none 0 0]) w := zeroBook
  have hok := bk_ok wb
  have PB := Lib.hid iP
  have MB := Lib.hid iM
  generalize hZ : benc b.rs = Z at *
  have EB := Lib.hid hZ
  clear hZ
  clear iP iM hlaid wb hok wc wk
  have B1 := Lib.hid (Below.refl w.heap.size w)
  have T2n := BoAt.new w (.slice b.A b.xs.length b.c)
  have T2 := Lib.hid T2n
  clear T2n
  have B3 := Lib.hid (B1.out.alloc B1.out.size (.cells #[(.slice b.A b.xs.length b.c)] 24))
  have F4 := Lib.hid (Fb.out.below B3.out (Nat.le_refl _))
  go_enter Tryz.func7, Tryz.ntmps7
  have C5 := Lib.hid (caAwake (w.alloc (.cells #[(.slice b.A b.xs.length b.c)] 24)) (HLA.out _ B3.out))
  go_wp2_with fail
  refine C5.out.mono ?_
  rintro e w6 ⟨rfl, hb7⟩
  have T8 := Lib.hid (T2.out.below hb7 T2.out.lt)
  have F9 := Lib.hid (F4.out.below hb7 (Nat.le_refl _))
  have B10 := Lib.hid (B3.out.trans (hb7.mono B3.out.size))
  clear hb7
  have M11 := Lib.hid (T8.out.load)
  have C12 := Lib.hid (fewB_any b w6 F9.out)
  rw [PB.out] at C12
  go_wp2_with (first | ((with_reducible refine wpList_load_by (o := ⟨some 16, .load 24 (.tmp 3), _, _, _, _⟩) ?e1 24 (.tmp 3) ?e2 ⟨w.heap.size, 0, none⟩ ?e3 _ M11.out ?_); (case e1 => rfl); (case e2 => rfl); (case e3 => rfl)))
  refine C12.out.mono ?_
  rintro e w13 ⟨rfl, hb14⟩
  have T15 := Lib.hid (T8.out.below hb14 T8.out.lt)
  have F16 := Lib.hid (F9.out.below hb14 (Nat.le_refl _))
  have B17 := Lib.hid (B10.out.trans (hb14.mono B10.out.size))
  clear hb14
  have M25 := Lib.hid (T15.out.load)
  have c26 := put_book b w13 F16.out
  unfold PutPost GivesT at c26
  simp only [MB.out, if_true] at c26
  rw [EB.out] at c26
  have C27 := Lib.hid (c26)
  clear c26
  go_wp2_with (first | ((with_reducible refine wpList_load_by (o := ⟨some 19, .load 24 (.tmp 3), _, _, _, _⟩) ?e1 24 (.tmp 3) ?e2 ⟨w.heap.size, 0, none⟩ ?e3 _ M25.out ?_); (case e1 => rfl); (case e2 => rfl); (case e3 => rfl)))
  refine C27.out.mono ?_
  rintro e w28 ⟨A18, n19, k20, rfl, h21, h22, h23, h24, hb29⟩
  have T30 := Lib.hid (T15.out.below hb29 T15.out.lt)
  have F31 := Lib.hid (F16.out.below hb29 (Nat.le_refl _))
  have B32 := Lib.hid (B17.out.trans (hb29.mono B17.out.size))
  clear hb29
  have N33 := Lib.hid (h21)
  have N34 := Lib.hid (h22)
  have N35 := Lib.hid (h23)
  have Y36 := Lib.hid (BsAt.own h24)
  clear h21 h22 h23 h24
  go_wp2
  go_ret
  exact ⟨rfl, B32.out⟩
set_option maxHeartbeats 8000000 in
theorem cmore_10 (b : Bk) (c k : Int) (w : World) (hlaid : Laid w) (wb : BkAt w b) (wc : (Lit.int .u8 c).wf = true) (wk : (Lit.int .i64 k).wf = true) (iP : fewB b.rs = true) (iM : bmay b.rs = false) :
    Calls Tryz.prog 7 #[.agg #[.slice b.A b.xs.length b.c], .int .u8 c, .int .i64 k] w fun e w' => e = .returned (.bool true) ∧ Below w.heap.size w w' := by
  have HLA := Lib.hid (fun (X : World) (hX : Below w.heap.size w X) => hlaid.below hX (Nat.le_refl _))
  have Fb := Lib.hid wb
  have hz : ∀ w : World, (zeroValue 24).run Tryz.prog w = .ok (.agg #[.slice none 0 0]) w := zeroBook
  have hok := bk_ok wb
  have PB := Lib.hid iP
  have MB := Lib.hid iM
  clear iP iM hlaid wb hok wc wk
  have B1 := Lib.hid (Below.refl w.heap.size w)
  have T2n := BoAt.new w (.slice b.A b.xs.length b.c)
  have T2 := Lib.hid T2n
  clear T2n
  have B3 := Lib.hid (B1.out.alloc B1.out.size (.cells #[(.slice b.A b.xs.length b.c)] 24))
  have F4 := Lib.hid (Fb.out.below B3.out (Nat.le_refl _))
  go_enter Tryz.func7, Tryz.ntmps7
  have C5 := Lib.hid (caAwake (w.alloc (.cells #[(.slice b.A b.xs.length b.c)] 24)) (HLA.out _ B3.out))
  go_wp2_with fail
  refine C5.out.mono ?_
  rintro e w6 ⟨rfl, hb7⟩
  have T8 := Lib.hid (T2.out.below hb7 T2.out.lt)
  have F9 := Lib.hid (F4.out.below hb7 (Nat.le_refl _))
  have B10 := Lib.hid (B3.out.trans (hb7.mono B3.out.size))
  clear hb7
  have M11 := Lib.hid (T8.out.load)
  have C12 := Lib.hid (fewB_any b w6 F9.out)
  rw [PB.out] at C12
  go_wp2_with (first | ((with_reducible refine wpList_load_by (o := ⟨some 16, .load 24 (.tmp 3), _, _, _, _⟩) ?e1 24 (.tmp 3) ?e2 ⟨w.heap.size, 0, none⟩ ?e3 _ M11.out ?_); (case e1 => rfl); (case e2 => rfl); (case e3 => rfl)))
  refine C12.out.mono ?_
  rintro e w13 ⟨rfl, hb14⟩
  have T15 := Lib.hid (T8.out.below hb14 T8.out.lt)
  have F16 := Lib.hid (F9.out.below hb14 (Nat.le_refl _))
  have B17 := Lib.hid (B10.out.trans (hb14.mono B10.out.size))
  clear hb14
  have M18 := Lib.hid (T15.out.load)
  have c19 := put_book b w13 F16.out
  unfold PutPost at c19
  simp only [MB.out, Bool.false_eq_true, if_false] at c19
  have C20 := Lib.hid (c19)
  clear c19
  go_wp2_with (first | ((with_reducible refine wpList_load_by (o := ⟨some 19, .load 24 (.tmp 3), _, _, _, _⟩) ?e1 24 (.tmp 3) ?e2 ⟨w.heap.size, 0, none⟩ ?e3 _ M18.out ?_); (case e1 => rfl); (case e2 => rfl); (case e3 => rfl)))
  refine C20.out.mono ?_
  rintro e w21 ⟨rfl, hb22⟩
  have T23 := Lib.hid (T15.out.below hb22 T15.out.lt)
  have F24 := Lib.hid (F16.out.below hb22 (Nat.le_refl _))
  have B25 := Lib.hid (B17.out.trans (hb22.mono B17.out.size))
  clear hb22
  go_wp2
  go_ret
  exact ⟨rfl, B25.out⟩
set_option maxHeartbeats 8000000 in
theorem cmore_neg (b : Bk) (c k : Int) (w : World) (hlaid : Laid w) (wb : BkAt w b) (wc : (Lit.int .u8 c).wf = true) (wk : (Lit.int .i64 k).wf = true) (iP : fewB b.rs = true) (iM : bmay b.rs = true) (iK : k < 0) :
    Calls Tryz.prog 7 #[.agg #[.slice b.A b.xs.length b.c], .int .u8 c, .int .i64 k] w fun e w' => e = .returned (.bool true) ∧ Below w.heap.size w w' := by
  have HLA := Lib.hid (fun (X : World) (hX : Below w.heap.size w X) => hlaid.below hX (Nat.le_refl _))
  have Fb := Lib.hid wb
  have hz : ∀ w : World, (zeroValue 24).run Tryz.prog w = .ok (.agg #[.slice none 0 0]) w := zeroBook
  have hok := bk_ok wb
  have PB := Lib.hid iP
  have MB := Lib.hid iM
  have hcb := bounds_u8 wc
  have HBY := Lib.hid (benc_bytes iM hok)
  have HBC := Lib.hid (all_append (benc_bytes iM hok) (show AllBytes [c] from fun z hz => by rw [List.mem_singleton.1 hz]; exact hcb))
  have HBL := Lib.hid (benc_len iM fun R hR => (hok R hR).1)
  have GM := Lib.hid (bget_more (t := [c]) iM (fun R hR => (hok R hR).1) (by simp))
  generalize hZ : benc b.rs = Z at *
  have EB := Lib.hid hZ
  clear hZ
  obtain ⟨i0, hi, hz0, hz1, hz2⟩ := info_parts infoByte
  have HCB := Lib.hid hcb
  clear iP iM hlaid wb hok wc wk hcb
  have tk : k < 0 := iK
  have B1 := Lib.hid (Below.refl w.heap.size w)
  have T2n := BoAt.new w (.slice b.A b.xs.length b.c)
  have T2 := Lib.hid T2n
  clear T2n
  have B3 := Lib.hid (B1.out.alloc B1.out.size (.cells #[(.slice b.A b.xs.length b.c)] 24))
  have F4 := Lib.hid (Fb.out.below B3.out (Nat.le_refl _))
  go_enter Tryz.func7, Tryz.ntmps7
  have C5 := Lib.hid (caAwake (w.alloc (.cells #[(.slice b.A b.xs.length b.c)] 24)) (HLA.out _ B3.out))
  go_wp2_with fail
  refine C5.out.mono ?_
  rintro e w6 ⟨rfl, hb7⟩
  have T8 := Lib.hid (T2.out.below hb7 T2.out.lt)
  have F9 := Lib.hid (F4.out.below hb7 (Nat.le_refl _))
  have B10 := Lib.hid (B3.out.trans (hb7.mono B3.out.size))
  clear hb7
  have M11 := Lib.hid (T8.out.load)
  have C12 := Lib.hid (fewB_any b w6 F9.out)
  rw [PB.out] at C12
  go_wp2_with (first | ((with_reducible refine wpList_load_by (o := ⟨some 16, .load 24 (.tmp 3), _, _, _, _⟩) ?e1 24 (.tmp 3) ?e2 ⟨w.heap.size, 0, none⟩ ?e3 _ M11.out ?_); (case e1 => rfl); (case e2 => rfl); (case e3 => rfl)))
  refine C12.out.mono ?_
  rintro e w13 ⟨rfl, hb14⟩
  have T15 := Lib.hid (T8.out.below hb14 T8.out.lt)
  have F16 := Lib.hid (F9.out.below hb14 (Nat.le_refl _))
  have B17 := Lib.hid (B10.out.trans (hb14.mono B10.out.size))
  clear hb14
  have M25 := Lib.hid (T15.out.load)
  have c26 := put_book b w13 F16.out
  unfold PutPost GivesT at c26
  simp only [MB.out, if_true] at c26
  rw [EB.out] at c26
  have C27 := Lib.hid (c26)
  clear c26
  go_wp2_with (first | ((with_reducible refine wpList_load_by (o := ⟨some 19, .load 24 (.tmp 3), _, _, _, _⟩) ?e1 24 (.tmp 3) ?e2 ⟨w.heap.size, 0, none⟩ ?e3 _ M25.out ?_); (case e1 => rfl); (case e2 => rfl); (case e3 => rfl)))
  refine C27.out.mono ?_
  rintro e w28 ⟨A18, n19, k20, rfl, h21, h22, h23, h24, hb29⟩
  have T30 := Lib.hid (T15.out.below hb29 T15.out.lt)
  have F31 := Lib.hid (F16.out.below hb29 (Nat.le_refl _))
  have B32 := Lib.hid (B17.out.trans (hb29.mono B17.out.size))
  clear hb29
  have N33 := Lib.hid (h21)
  have N34 := Lib.hid (h22)
  have N35 := Lib.hid (h23)
  have Y36 := Lib.hid (BsAt.own h24)
  clear h21 h22 h23 h24
  go_wp2_with (first | (at_builtin; refine wpList_append_byt _ rfl (.const (.slice none 0 0)) (.tmp 35) 46 rfl w28.heap.size 5 i0 Tryz.underlying46 hi hz0 hz1 hz2 _ 0 [] rfl (World.ownsRow_nil _ _ _ _) _ A18 n19 k20 Z rfl Y36.out.1 N33.out Y36.out.2.2 (by have := N33.out; have := HBL.out; omega) (Nat.le_refl _) ?_; intro v90 w90 ho hg; rw [List.nil_append, Nat.zero_add] at ho; have O90 := Lib.hid (ho.alloc (.cells #[.int .u8 c] 5)); have B90 := Lib.hid (((Below.refl w28.heap.size w28).grown hg (Nat.le_refl _) (fun g hg => own_base (World.ownsRow_nil w28 w28.heap.size 5 1) hg)).alloc hg.size (.cells #[.int .u8 c] 5)); have Y90 := Lib.hid (byt_one w90 c); clear ho hg) | (at_builtin; refine wpList_append_byt _ rfl (.tmp 36) (.tmp 38) 46 rfl w28.heap.size 5 i0 Tryz.underlying46 hi hz0 hz1 hz2 _ n19 Z rfl O90.out _ (some ⟨w90.heap.size, 0, none⟩) 1 1 [c] rfl Y90.out rfl (fun h => by cases h) (by have := N33.out; have := HBL.out; omega) B90.out.size ?_; intro v91 w91 ho hg; have hB91 := B90.out.grown hg B90.out.size (fun g hg => own_base O90.out hg); obtain ⟨A9, n9, c9, he, hl9, hnc9, hcm9, ho9, -⟩ := gives_own ho hB91; injection he with he; subst he; have HN9 := Lib.hid hl9; have HK9 := Lib.hid hnc9; have HC9 := Lib.hid hcm9; have Y91 := Lib.hid (BsAt.own ho9); clear ho hg hl9 hnc9 hcm9 ho9; skip))
  have T37 := Lib.hid (T30.out.below hB91 T30.out.lt)
  have F38 := Lib.hid (F31.out.below hB91 (Nat.le_refl _))
  have F39 := Lib.hid (Y36.out.below hB91 (Nat.le_refl _))
  have B40 := Lib.hid (B32.out.trans (hB91.mono B32.out.size))
  clear hB91
  have c46 := get_book A9 n9 c9 (Z ++ [c]) w91 Y91.out.1 (Nat.le_refl _) HN9.out HBC.out HK9.out HC9.out
  unfold GetPost at c46
  rw [GM.out] at c46
  try dsimp only [Option.isSome_some, Option.isSome_none, Option.getD_some, Option.getD_none] at c46
  have C47 := Lib.hid (c46)
  clear c46
  go_wp2_with fail
  refine C47.out.mono ?_
  rintro e w48 ⟨d41, he42, hd43, hk44, hb49⟩
  have hl45 : d41.xs.length = 0 := by have h9 := congrArg List.length hd43; simpa [Bk.rs] using h9
  rw [hl45] at he42
  subst he42
  have T50 := Lib.hid (T37.out.below hb49 T37.out.lt)
  have F51 := Lib.hid (F38.out.below hb49 (Nat.le_refl _))
  have F52 := Lib.hid (F39.out.below hb49 (Nat.le_refl _))
  have F53 := Lib.hid (Y91.out.below hb49 (Nat.le_refl _))
  have B54 := Lib.hid (B40.out.trans (hb49.mono B40.out.size))
  clear hb49
  have E55 := Lib.hid (hd43)
  have L56 := Lib.hid (hl45)
  have F57 := Lib.hid (hk44)
  clear hd43 hk44 hl45
  have hb58 := (Below.refl w48.heap.size w48).alloc (Nat.le_refl _) (.cells #[(.slice d41.A 0 d41.c)] 24)
  have T59 := Lib.hid (BoAt.new w48 (.slice d41.A 0 d41.c))
  have T60 := Lib.hid (T50.out.below hb58 T50.out.lt)
  have F61 := Lib.hid (F51.out.below hb58 (Nat.le_refl _))
  have F62 := Lib.hid (F52.out.below hb58 (Nat.le_refl _))
  have F63 := Lib.hid (F53.out.below hb58 (Nat.le_refl _))
  have F64 := Lib.hid (F57.out.below hb58 (Nat.le_refl _))
  have B65 := Lib.hid (B54.out.trans (hb58.mono B54.out.size))
  clear hb58
  clear hz0 hz1 hz2 hi
  go_wp2
  go_ret
  exact ⟨rfl, B65.out⟩
set_option maxHeartbeats 8000000 in
theorem cmore_big (b : Bk) (c k : Int) (w : World) (hlaid : Laid w) (wb : BkAt w b) (wc : (Lit.int .u8 c).wf = true) (wk : (Lit.int .i64 k).wf = true) (iP : fewB b.rs = true) (iM : bmay b.rs = true) (i0K : ¬ k < 0) (iK : ((benc b.rs).length : Int) ≤ k) :
    Calls Tryz.prog 7 #[.agg #[.slice b.A b.xs.length b.c], .int .u8 c, .int .i64 k] w fun e w' => e = .returned (.bool true) ∧ Below w.heap.size w w' := by
  have HLA := Lib.hid (fun (X : World) (hX : Below w.heap.size w X) => hlaid.below hX (Nat.le_refl _))
  have Fb := Lib.hid wb
  have hz : ∀ w : World, (zeroValue 24).run Tryz.prog w = .ok (.agg #[.slice none 0 0]) w := zeroBook
  have hok := bk_ok wb
  have PB := Lib.hid iP
  have MB := Lib.hid iM
  have hcb := bounds_u8 wc
  have HBY := Lib.hid (benc_bytes iM hok)
  have HBC := Lib.hid (all_append (benc_bytes iM hok) (show AllBytes [c] from fun z hz => by rw [List.mem_singleton.1 hz]; exact hcb))
  have HBL := Lib.hid (benc_len iM fun R hR => (hok R hR).1)
  have GM := Lib.hid (bget_more (t := [c]) iM (fun R hR => (hok R hR).1) (by simp))
  have HKB := Lib.hid iK
  generalize hZ : benc b.rs = Z at *
  have EB := Lib.hid hZ
  clear hZ
  obtain ⟨i0, hi, hz0, hz1, hz2⟩ := info_parts infoByte
  have HCB := Lib.hid hcb
  clear iP iM hlaid wb hok wc wk hcb
  have tk : ¬ k < 0 := i0K
  have B1 := Lib.hid (Below.refl w.heap.size w)
  have T2n := BoAt.new w (.slice b.A b.xs.length b.c)
  have T2 := Lib.hid T2n
  clear T2n
  have B3 := Lib.hid (B1.out.alloc B1.out.size (.cells #[(.slice b.A b.xs.length b.c)] 24))
  have F4 := Lib.hid (Fb.out.below B3.out (Nat.le_refl _))
  go_enter Tryz.func7, Tryz.ntmps7
  have C5 := Lib.hid (caAwake (w.alloc (.cells #[(.slice b.A b.xs.length b.c)] 24)) (HLA.out _ B3.out))
  go_wp2_with fail
  refine C5.out.mono ?_
  rintro e w6 ⟨rfl, hb7⟩
  have T8 := Lib.hid (T2.out.below hb7 T2.out.lt)
  have F9 := Lib.hid (F4.out.below hb7 (Nat.le_refl _))
  have B10 := Lib.hid (B3.out.trans (hb7.mono B3.out.size))
  clear hb7
  have M11 := Lib.hid (T8.out.load)
  have C12 := Lib.hid (fewB_any b w6 F9.out)
  rw [PB.out] at C12
  go_wp2_with (first | ((with_reducible refine wpList_load_by (o := ⟨some 16, .load 24 (.tmp 3), _, _, _, _⟩) ?e1 24 (.tmp 3) ?e2 ⟨w.heap.size, 0, none⟩ ?e3 _ M11.out ?_); (case e1 => rfl); (case e2 => rfl); (case e3 => rfl)))
  refine C12.out.mono ?_
  rintro e w13 ⟨rfl, hb14⟩
  have T15 := Lib.hid (T8.out.below hb14 T8.out.lt)
  have F16 := Lib.hid (F9.out.below hb14 (Nat.le_refl _))
  have B17 := Lib.hid (B10.out.trans (hb14.mono B10.out.size))
  clear hb14
  have M25 := Lib.hid (T15.out.load)
  have c26 := put_book b w13 F16.out
  unfold PutPost GivesT at c26
  simp only [MB.out, if_true] at c26
  rw [EB.out] at c26
  have C27 := Lib.hid (c26)
  clear c26
  go_wp2_with (first | ((with_reducible refine wpList_load_by (o := ⟨some 19, .load 24 (.tmp 3), _, _, _, _⟩) ?e1 24 (.tmp 3) ?e2 ⟨w.heap.size, 0, none⟩ ?e3 _ M25.out ?_); (case e1 => rfl); (case e2 => rfl); (case e3 => rfl)))
  refine C27.out.mono ?_
  rintro e w28 ⟨A18, n19, k20, rfl, h21, h22, h23, h24, hb29⟩
  have T30 := Lib.hid (T15.out.below hb29 T15.out.lt)
  have F31 := Lib.hid (F16.out.below hb29 (Nat.le_refl _))
  have B32 := Lib.hid (B17.out.trans (hb29.mono B17.out.size))
  clear hb29
  have N33 := Lib.hid (h21)
  have N34 := Lib.hid (h22)
  have N35 := Lib.hid (h23)
  have Y36 := Lib.hid (BsAt.own h24)
  clear h21 h22 h23 h24
  go_wp2_with (first | (at_builtin; refine wpList_append_byt _ rfl (.const (.slice none 0 0)) (.tmp 35) 46 rfl w28.heap.size 5 i0 Tryz.underlying46 hi hz0 hz1 hz2 _ 0 [] rfl (World.ownsRow_nil _ _ _ _) _ A18 n19 k20 Z rfl Y36.out.1 N33.out Y36.out.2.2 (by have := N33.out; have := HBL.out; omega) (Nat.le_refl _) ?_; intro v90 w90 ho hg; rw [List.nil_append, Nat.zero_add] at ho; have O90 := Lib.hid (ho.alloc (.cells #[.int .u8 c] 5)); have B90 := Lib.hid (((Below.refl w28.heap.size w28).grown hg (Nat.le_refl _) (fun g hg => own_base (World.ownsRow_nil w28 w28.heap.size 5 1) hg)).alloc hg.size (.cells #[.int .u8 c] 5)); have Y90 := Lib.hid (byt_one w90 c); clear ho hg) | (at_builtin; refine wpList_append_byt _ rfl (.tmp 36) (.tmp 38) 46 rfl w28.heap.size 5 i0 Tryz.underlying46 hi hz0 hz1 hz2 _ n19 Z rfl O90.out _ (some ⟨w90.heap.size, 0, none⟩) 1 1 [c] rfl Y90.out rfl (fun h => by cases h) (by have := N33.out; have := HBL.out; omega) B90.out.size ?_; intro v91 w91 ho hg; have hB91 := B90.out.grown hg B90.out.size (fun g hg => own_base O90.out hg); obtain ⟨A9, n9, c9, he, hl9, hnc9, hcm9, ho9, -⟩ := gives_own ho hB91; injection he with he; subst he; have HN9 := Lib.hid hl9; have HK9 := Lib.hid hnc9; have HC9 := Lib.hid hcm9; have Y91 := Lib.hid (BsAt.own ho9); clear ho hg hl9 hnc9 hcm9 ho9; skip))
  have T37 := Lib.hid (T30.out.below hB91 T30.out.lt)
  have F38 := Lib.hid (F31.out.below hB91 (Nat.le_refl _))
  have F39 := Lib.hid (Y36.out.below hB91 (Nat.le_refl _))
  have B40 := Lib.hid (B32.out.trans (hB91.mono B32.out.size))
  clear hB91
  have c46 := get_book A9 n9 c9 (Z ++ [c]) w91 Y91.out.1 (Nat.le_refl _) HN9.out HBC.out HK9.out HC9.out
  unfold GetPost at c46
  rw [GM.out] at c46
  try dsimp only [Option.isSome_some, Option.isSome_none, Option.getD_some, Option.getD_none] at c46
  have C47 := Lib.hid (c46)
  clear c46
  go_wp2_with fail
  refine C47.out.mono ?_
  rintro e w48 ⟨d41, he42, hd43, hk44, hb49⟩
  have hl45 : d41.xs.length = 0 := by have h9 := congrArg List.length hd43; simpa [Bk.rs] using h9
  rw [hl45] at he42
  subst he42
  have T50 := Lib.hid (T37.out.below hb49 T37.out.lt)
  have F51 := Lib.hid (F38.out.below hb49 (Nat.le_refl _))
  have F52 := Lib.hid (F39.out.below hb49 (Nat.le_refl _))
  have F53 := Lib.hid (Y91.out.below hb49 (Nat.le_refl _))
  have B54 := Lib.hid (B40.out.trans (hb49.mono B40.out.size))
  clear hb49
  have E55 := Lib.hid (hd43)
  have L56 := Lib.hid (hl45)
  have F57 := Lib.hid (hk44)
  clear hd43 hk44 hl45
  have hb58 := (Below.refl w48.heap.size w48).alloc (Nat.le_refl _) (.cells #[(.slice d41.A 0 d41.c)] 24)
  have T59 := Lib.hid (BoAt.new w48 (.slice d41.A 0 d41.c))
  have T60 := Lib.hid (T50.out.below hb58 T50.out.lt)
  have F61 := Lib.hid (F51.out.below hb58 (Nat.le_refl _))
  have F62 := Lib.hid (F52.out.below hb58 (Nat.le_refl _))
  have F63 := Lib.hid (F53.out.below hb58 (Nat.le_refl _))
  have F64 := Lib.hid (F57.out.below hb58 (Nat.le_refl _))
  have B65 := Lib.hid (B54.out.trans (hb58.mono B54.out.size))
  clear hb58
  clear hz0 hz1 hz2 hi
  have tl : ((n19 : Nat) : Int) ≤ k := by have := N33.out; have := HKB.out; omega
  go_wp2
  go_ret
  exact ⟨rfl, B65.out⟩
set_option maxHeartbeats 8000000 in
theorem cmore_cut (b : Bk) (c k : Int) (w : World) (hlaid : Laid w) (wb : BkAt w b) (wc : (Lit.int .u8 c).wf = true) (wk : (Lit.int .i64 k).wf = true) (iP : fewB b.rs = true) (iM : bmay b.rs = true) (i0K : ¬ k < 0) (iK : ¬ ((benc b.rs).length : Int) ≤ k) :
    Calls Tryz.prog 7 #[.agg #[.slice b.A b.xs.length b.c], .int .u8 c, .int .i64 k] w fun e w' => e = .returned (.bool true) ∧ Below w.heap.size w w' := by
  have HLA := Lib.hid (fun (X : World) (hX : Below w.heap.size w X) => hlaid.below hX (Nat.le_refl _))
  have Fb := Lib.hid wb
  have hz : ∀ w : World, (zeroValue 24).run Tryz.prog w = .ok (.agg #[.slice none 0 0]) w := zeroBook
  have hok := bk_ok wb
  have PB := Lib.hid iP
  have MB := Lib.hid iM
  have hcb := bounds_u8 wc
  have HBY := Lib.hid (benc_bytes iM hok)
  have HBC := Lib.hid (all_append (benc_bytes iM hok) (show AllBytes [c] from fun z hz => by rw [List.mem_singleton.1 hz]; exact hcb))
  have HBL := Lib.hid (benc_len iM fun R hR => (hok R hR).1)
  have GM := Lib.hid (bget_more (t := [c]) iM (fun R hR => (hok R hR).1) (by simp))
  obtain ⟨m, rfl⟩ : ∃ m : Nat, k = m := ⟨k.toNat, by omega⟩
  have hml : m < (benc b.rs).length := by omega
  have GL := Lib.hid (bget_less iM hok hml)
  have HTL := Lib.hid (show ((benc b.rs).take m).length = m by rw [List.length_take]; omega)
  have HTB := Lib.hid (all_take (benc_bytes iM hok) m)
  have HML := Lib.hid hml
  generalize hZ : benc b.rs = Z at *
  have EB := Lib.hid hZ
  clear hZ
  obtain ⟨i0, hi, hz0, hz1, hz2⟩ := info_parts infoByte
  have HCB := Lib.hid hcb
  clear iP iM hlaid wb hok wc wk hcb
  clear iK i0K hml
  have tk : ¬ (m : Int) < 0 := by omega
  have B1 := Lib.hid (Below.refl w.heap.size w)
  have T2n := BoAt.new w (.slice b.A b.xs.length b.c)
  have T2 := Lib.hid T2n
  clear T2n
  have B3 := Lib.hid (B1.out.alloc B1.out.size (.cells #[(.slice b.A b.xs.length b.c)] 24))
  have F4 := Lib.hid (Fb.out.below B3.out (Nat.le_refl _))
  go_enter Tryz.func7, Tryz.ntmps7
  have C5 := Lib.hid (caAwake (w.alloc (.cells #[(.slice b.A b.xs.length b.c)] 24)) (HLA.out _ B3.out))
  go_wp2_with fail
  refine C5.out.mono ?_
  rintro e w6 ⟨rfl, hb7⟩
  have T8 := Lib.hid (T2.out.below hb7 T2.out.lt)
  have F9 := Lib.hid (F4.out.below hb7 (Nat.le_refl _))
  have B10 := Lib.hid (B3.out.trans (hb7.mono B3.out.size))
  clear hb7
  have M11 := Lib.hid (T8.out.load)
  have C12 := Lib.hid (fewB_any b w6 F9.out)
  rw [PB.out] at C12
  go_wp2_with (first | ((with_reducible refine wpList_load_by (o := ⟨some 16, .load 24 (.tmp 3), _, _, _, _⟩) ?e1 24 (.tmp 3) ?e2 ⟨w.heap.size, 0, none⟩ ?e3 _ M11.out ?_); (case e1 => rfl); (case e2 => rfl); (case e3 => rfl)))
  refine C12.out.mono ?_
  rintro e w13 ⟨rfl, hb14⟩
  have T15 := Lib.hid (T8.out.below hb14 T8.out.lt)
  have F16 := Lib.hid (F9.out.below hb14 (Nat.le_refl _))
  have B17 := Lib.hid (B10.out.trans (hb14.mono B10.out.size))
  clear hb14
  have M25 := Lib.hid (T15.out.load)
  have c26 := put_book b w13 F16.out
  unfold PutPost GivesT at c26
  simp only [MB.out, if_true] at c26
  rw [EB.out] at c26
  have C27 := Lib.hid (c26)
  clear c26
  go_wp2_with (first | ((with_reducible refine wpList_load_by (o := ⟨some 19, .load 24 (.tmp 3), _, _, _, _⟩) ?e1 24 (.tmp 3) ?e2 ⟨w.heap.size, 0, none⟩ ?e3 _ M25.out ?_); (case e1 => rfl); (case e2 => rfl); (case e3 => rfl)))
  refine C27.out.mono ?_
  rintro e w28 ⟨A18, n19, k20, rfl, h21, h22, h23, h24, hb29⟩
  have T30 := Lib.hid (T15.out.below hb29 T15.out.lt)
  have F31 := Lib.hid (F16.out.below hb29 (Nat.le_refl _))
  have B32 := Lib.hid (B17.out.trans (hb29.mono B17.out.size))
  clear hb29
  have N33 := Lib.hid (h21)
  have N34 := Lib.hid (h22)
  have N35 := Lib.hid (h23)
  have Y36 := Lib.hid (BsAt.own h24)
  clear h21 h22 h23 h24
  go_wp2_with (first | (at_builtin; refine wpList_append_byt _ rfl (.const (.slice none 0 0)) (.tmp 35) 46 rfl w28.heap.size 5 i0 Tryz.underlying46 hi hz0 hz1 hz2 _ 0 [] rfl (World.ownsRow_nil _ _ _ _) _ A18 n19 k20 Z rfl Y36.out.1 N33.out Y36.out.2.2 (by have := N33.out; have := HBL.out; omega) (Nat.le_refl _) ?_; intro v90 w90 ho hg; rw [List.nil_append, Nat.zero_add] at ho; have O90 := Lib.hid (ho.alloc (.cells #[.int .u8 c] 5)); have B90 := Lib.hid (((Below.refl w28.heap.size w28).grown hg (Nat.le_refl _) (fun g hg => own_base (World.ownsRow_nil w28 w28.heap.size 5 1) hg)).alloc hg.size (.cells #[.int .u8 c] 5)); have Y90 := Lib.hid (byt_one w90 c); clear ho hg) | (at_builtin; refine wpList_append_byt _ rfl (.tmp 36) (.tmp 38) 46 rfl w28.heap.size 5 i0 Tryz.underlying46 hi hz0 hz1 hz2 _ n19 Z rfl O90.out _ (some ⟨w90.heap.size, 0, none⟩) 1 1 [c] rfl Y90.out rfl (fun h => by cases h) (by have := N33.out; have := HBL.out; omega) B90.out.size ?_; intro v91 w91 ho hg; have hB91 := B90.out.grown hg B90.out.size (fun g hg => own_base O90.out hg); obtain ⟨A9, n9, c9, he, hl9, hnc9, hcm9, ho9, -⟩ := gives_own ho hB91; injection he with he; subst he; have HN9 := Lib.hid hl9; have HK9 := Lib.hid hnc9; have HC9 := Lib.hid hcm9; have Y91 := Lib.hid (BsAt.own ho9); clear ho hg hl9 hnc9 hcm9 ho9; skip))
  have T37 := Lib.hid (T30.out.below hB91 T30.out.lt)
  have F38 := Lib.hid (F31.out.below hB91 (Nat.le_refl _))
  have F39 := Lib.hid (Y36.out.below hB91 (Nat.le_refl _))
  have B40 := Lib.hid (B32.out.trans (hB91.mono B32.out.size))
  clear hB91
  have c46 := get_book A9 n9 c9 (Z ++ [c]) w91 Y91.out.1 (Nat.le_refl _) HN9.out HBC.out HK9.out HC9.out
  unfold GetPost at c46
  rw [GM.out] at c46
  try dsimp only [Option.isSome_some, Option.isSome_none, Option.getD_some, Option.getD_none] at c46
  have C47 := Lib.hid (c46)
  clear c46
  go_wp2_with fail
  refine C47.out.mono ?_
  rintro e w48 ⟨d41, he42, hd43, hk44, hb49⟩
  have hl45 : d41.xs.length = 0 := by have h9 := congrArg List.length hd43; simpa [Bk.rs] using h9
  rw [hl45] at he42
  subst he42
  have T50 := Lib.hid (T37.out.below hb49 T37.out.lt)
  have F51 := Lib.hid (F38.out.below hb49 (Nat.le_refl _))
  have F52 := Lib.hid (F39.out.below hb49 (Nat.le_refl _))
  have F53 := Lib.hid (Y91.out.below hb49 (Nat.le_refl _))
  have B54 := Lib.hid (B40.out.trans (hb49.mono B40.out.size))
  clear hb49
  have E55 := Lib.hid (hd43)
  have L56 := Lib.hid (hl45)
  have F57 := Lib.hid (hk44)
  clear hd43 hk44 hl45
  have hb58 := (Below.refl w48.heap.size w48).alloc (Nat.le_refl _) (.cells #[(.slice d41.A 0 d41.c)] 24)
  have T59 := Lib.hid (BoAt.new w48 (.slice d41.A 0 d41.c))
  have T60 := Lib.hid (T50.out.below hb58 T50.out.lt)
  have F61 := Lib.hid (F51.out.below hb58 (Nat.le_refl _))
  have F62 := Lib.hid (F52.out.below hb58 (Nat.le_refl _))
  have F63 := Lib.hid (F53.out.below hb58 (Nat.le_refl _))
  have F64 := Lib.hid (F57.out.below hb58 (Nat.le_refl _))
  have B65 := Lib.hid (B54.out.trans (hb58.mono B54.out.size))
  clear hb58
  clear hz0 hz1 hz2 hi
  have tl : ¬ ((n19 : Nat) : Int) ≤ (m : Int) := by have := N33.out; have := HML.out; omega
  have hsl := sl_h A18 n19 k20 m (by have := N33.out; have := HML.out; have := N34.out; omega) (m : Int) rfl
  have F66 := Lib.hid ((by have := N33.out; have := HML.out; have := N34.out; omega : m ≤ k20))
  have F67 := Lib.hid ((show BsAt (w48.alloc (.cells #[(.slice d41.A 0 d41.c)] 24)) A18 m k20 (Z.take m) from ⟨F62.out.1.take m, HTL.out, F62.out.2.2⟩))
  have c73 := get_book A18 m k20 (Z.take m) (w48.alloc (.cells #[(.slice d41.A 0 d41.c)] 24)) F67.out.1 (Nat.le_refl _) HTL.out HTB.out F66.out N35.out
  unfold GetPost at c73
  rw [GL.out] at c73
  try dsimp only [Option.isSome_some, Option.isSome_none, Option.getD_some, Option.getD_none] at c73
  have C74 := Lib.hid (c73)
  clear c73
  go_wp2_with fail
  refine C74.out.mono ?_
  rintro e w75 ⟨d68, he69, hd70, hk71, hb76⟩
  have hl72 : d68.xs.length = 0 := by have h9 := congrArg List.length hd70; simpa [Bk.rs] using h9
  rw [hl72] at he69
  subst he69
  have T77 := Lib.hid (T60.out.below hb76 T60.out.lt)
  have T78 := Lib.hid (T59.out.below hb76 T59.out.lt)
  have F79 := Lib.hid (F61.out.below hb76 (Nat.le_refl _))
  have F80 := Lib.hid (F62.out.below hb76 (Nat.le_refl _))
  have F81 := Lib.hid (F63.out.below hb76 (Nat.le_refl _))
  have F82 := Lib.hid (F64.out.below hb76 (Nat.le_refl _))
  have F83 := Lib.hid (F67.out.below hb76 (Nat.le_refl _))
  have B84 := Lib.hid (B65.out.trans (hb76.mono B65.out.size))
  clear hb76
  have E85 := Lib.hid (hd70)
  have L86 := Lib.hid (hl72)
  have F87 := Lib.hid (hk71)
  clear hd70 hk71 hl72
  have hb88 := (Below.refl w75.heap.size w75).alloc (Nat.le_refl _) (.cells #[(.slice d68.A 0 d68.c)] 24)
  have T89 := Lib.hid (BoAt.new w75 (.slice d68.A 0 d68.c))
  have T90 := Lib.hid (T77.out.below hb88 T77.out.lt)
  have T91 := Lib.hid (T78.out.below hb88 T78.out.lt)
  have F92 := Lib.hid (F79.out.below hb88 (Nat.le_refl _))
  have F93 := Lib.hid (F80.out.below hb88 (Nat.le_refl _))
  have F94 := Lib.hid (F81.out.below hb88 (Nat.le_refl _))
  have F95 := Lib.hid (F82.out.below hb88 (Nat.le_refl _))
  have F96 := Lib.hid (F83.out.below hb88 (Nat.le_refl _))
  have F97 := Lib.hid (F87.out.below hb88 (Nat.le_refl _))
  have B98 := Lib.hid (B84.out.trans (hb88.mono B84.out.size))
  clear hb88
  go_wp2
  go_ret
  exact ⟨rfl, B98.out⟩
set_option maxHeartbeats 8000000 in
theorem walk_canonMore (b : Bk) (c k : Int) (w : World) (hlaid : Laid w) (wb : BkAt w b) (wc : (Lit.int .u8 c).wf = true) (wk : (Lit.int .i64 k).wf = true) :
    Calls Tryz.prog 7 #[.agg #[.slice b.A b.xs.length b.c], .int .u8 c, .int .i64 k] w fun e w' => e = .returned (.bool true) ∧ Below w.heap.size w w' := by
  cases p : fewB b.rs
  · cases m : bmay b.rs
    · exact cmore_00 b c k w hlaid wb wc wk p m
    · exact cmore_01 b c k w hlaid wb wc wk p m
  · cases m : bmay b.rs
    · exact cmore_10 b c k w hlaid wb wc wk p m
    · by_cases h1 : k < 0
      · exact cmore_neg b c k w hlaid wb wc wk p m h1
      · by_cases h2 : ((benc b.rs).length : Int) ≤ k
        · exact cmore_big b c k w hlaid wb wc wk p m h1 h2
        · exact cmore_cut b c k w hlaid wb wc wk p m h1 h2
end Go.Proofs.YtcmknbdeafcknaaGreatDoor

