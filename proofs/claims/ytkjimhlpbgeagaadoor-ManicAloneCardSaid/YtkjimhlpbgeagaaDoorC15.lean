import Derived.Test.YtkjimhlpbgeagaaDoorC0
import Derived.Test.YtkjimhlpbgeagaaDoorC14
/-
  What the functions that a law of this layer reaches answer, part 15. Nothing that was there is written.
-/
namespace Go.Proofs.YtkjimhlpbgeagaaDoor
set_option linter.unusedVariables false
set_option linter.unusedSimpArgs false
section
open Go.RowKit WM
set_option maxRecDepth 100000
def enPr (no n r len : Int) (ds : List Int) : List Value := .int .i64 no :: .int .i64 n :: .int .i64 r :: .int .i64 len :: ds.map (Value.int .u8)
theorem enPr_len {no n r len : Int} {ds : List Int} (h : ds.length = 32) : 36 = (enPr no n r len ds).length := by simp [enPr, h]
theorem built_en4 {ds : List Int} (h : ds.length = 32) (no n r len : Int) : Tryd.prog.built 52 [(0, .int .i64 no), (1, .agg #[.int .i64 n, .int .i64 r]), (2, .int .i64 len), (3, .agg (bvals ds))] = some (enPr no n r len ds ++ [Value.slice none 0 0]).toArray := by
 obtain ⟨a0, a1, a2, a3, a4, a5, a6, a7, a8, a9, a10, a11, a12, a13, a14, a15, a16, a17, a18, a19, a20, a21, a22, a23, a24, a25, a26, a27, a28, a29, a30, a31, rfl⟩ := list32 h
 kernel_rfl
theorem build_en4 {ds : List Int} (h : ds.length = 32) (no n r len : Int) (w : World) : (Instr.build 52 #[(0, .int .i64 no), (1, .agg #[.int .i64 n, .int .i64 r]), (2, .int .i64 len), (3, .agg (bvals ds))]).run Tryd.prog w = .ok (.agg (enPr no n r len ds ++ [Value.slice none 0 0]).toArray) w := run_build w _ _ _ (built_en4 h _ _ _ _)
theorem enPr_size {ds : List Int} (h : ds.length = 32) (no n r len : Int) (v : Value) : (enPr no n r len ds ++ [v]).toArray.size = 37 := by simp [enPr, h]
theorem enPr_one (no n r len : Int) (ds : List Int) {v : Value} (hv : v.oneCell' = true) : (enPr no n r len ds ++ [v]).toArray.all (·.oneCell') = true := by
 rw [Array.all_eq_true_iff_forall_mem]
 intro u hu
 simp only [enPr, List.mem_toArray, List.mem_append, List.mem_cons, List.cons_append, List.not_mem_nil, or_false] at hu
 rcases hu with rfl | rfl | rfl | rfl | hu | rfl
 ·rfl
 ·rfl
 ·rfl
 ·rfl
 ·exact byte_ones _ u hu
 ·exact hv
theorem sizeEnI : (Tryd.prog.info? 52).map (·.size) = some 37 := by
 obtain ⟨i, hi, _, hs, _⟩ := info_parts infoEn
 rw [hi]
 exact congrArg some hs
theorem sl_1A (b : Nat) (w : World) : (Instr.sliceAt 132 (.pointer (some ⟨b, 0, none⟩)) none none none).run Tryd.prog w = .ok (.slice (some ⟨b, 0, none⟩) 1 1) w := by
 rw [run_sliceAt_array_all w 132 ⟨b, 0, none⟩ (show Tryd.prog.underlying 132 = some (.array (Tryd.prog.arrayLen 132) (Tryd.prog.elem 132)) by kernel_rfl)]
 rw [show Tryd.prog.elem 132 = 5 by kernel_rfl, show Tryd.prog.arrayLen 132 = 1 by kernel_rfl, sizeByte]
 simp [Result.andThen, slicedAt, Addr.add]
section
variable {α : Type} {T : TKind α} {te tc : TypeId} {bl : Nat} {pre : List Value} {w X Y : World} {q : Nat} {CR : Array Value} {TR : TypeId} {s : MS} {v : Value} {xs : List α}
theorem RQ.done (h : RQ T te tc bl pre w q CR TR s v v xs X) (hg : X.grownBy Y (some w.heap.size)) (h1 : TR ∉ T.ts) (h2 : TR ≠ te) {A : Option Addr} {c : Nat} (hv : v = .slice A xs.length c) :
  MRd Y q s ∧ w.grownBy Y (some q) ∧ (∀ x ∈ xs, T.K.ok Y x ∧ T.tag Y x) ∧ T.K.row Y A c xs ∧ Tag te Y A := by
 subst hv
 have hq := h.qlt
 have hk : ∀ x ∈ xs, T.K.ok Y x ∧ T.tag Y x := fun x hx => T.kept (h.ok x hx).1 (h.ok x hx).2 hg (NoT.of h.res h1)
 have hn : NoT [te] X (some w.heap.size) := NoT.of h.res (fun hm => h2 (List.mem_singleton.1 hm))
 have ht : Tag te X A := Tag.own h.own
 exact ⟨h.rd.kept hg (fun k e => by have := Option.some.inj e; omega), mrd_new h.grown hg (fun g e => by have := Option.some.inj e; omega), hk, Kind.row_kept (K := T.K) (Kind.row_own (K := T.K) h.own (fun x hx => (h.ok x hx).1)) ht hg hn (fun x hx => (hk x hx).1), ht.kept hg hn⟩
end
set_option maxHeartbeats 16000000 in
theorem ment_any (q : Nat) (s : MS) (w : World) (h : MRd w q s) : Calls Tryd.prog 56 #[.pointer (some ⟨q, 0, none⟩)] w (MRdK TEn (fun x : EnA => x.e) w q (ment s)) := by
 have HQ := Lib.hid h.lt
 have SA := Lib.hid ((MSt.new h (KEn.cs enA0).toArray 52).old (.cells #[.int .u8 0] 132))
 have SD := Lib.hid (show MSt w q s (KEn.cs enA0).toArray 52 (World.drew ((w.alloc (.cells (KEn.cs enA0).toArray 52)).alloc (.cells #[.int .u8 0] 132))) from SA.out.more HQ.out (SA.out.rd.kept (row := none) (mrd_below ((Below.refl _ _).drew) (Nat.le_refl _)) (fun k e => by cases e)) (mrd_below ((Below.refl _ _).drew) (Nat.le_refl _)))
 have hh : ((w.alloc (.cells (KEn.cs enA0).toArray 52)).alloc (.cells #[.int .u8 0] 132)).heap[w.heap.size + 1]? = some (.cells #[.int .u8 0] 132) := by
  have := heap_alloc_new (w.alloc (.cells (KEn.cs enA0).toArray 52)) (.cells #[.int .u8 0] 132)
  rw [World.size_alloc] at this
  exact this
 have HF := Lib.hid (mfill_any q (w.heap.size + 1) 1 s [] 132 (World.drew ((w.alloc (.cells (KEn.cs enA0).toArray 52)).alloc (.cells #[.int .u8 0] 132))) SD.out.rd (by have := h.lt; omega) (show _ = ((w.alloc (.cells (KEn.cs enA0).toArray 52)).alloc (.cells #[.int .u8 0] 132)).heap.size by simp only [World.size_alloc]) (by decide) (show (World.drew ((w.alloc (.cells (KEn.cs enA0).toArray 52)).alloc (.cells #[.int .u8 0] 132))).heap[w.heap.size + 1]? = some (Obj.cells ((List.replicate 1 (0 : Int)).map (Value.int .u8) ++ []).toArray 132) from (((Below.refl _ _).drew).block _ (Array.getElem?_eq_some_iff.1 hh).1).trans hh))
 unfold FillPost at HF
 have HC1 := Lib.hid (fun X (hX : MRd X q (mfil 1 s).2) => mst_any q (mfil 1 s).2 X hX)
 have HC2 := Lib.hid (fun X (hX : MRd X q (mst (mfil 1 s).2).2) => show Calls Tryd.prog 39 #[.pointer (some ⟨q, 0, none⟩), .int .i64 200] X (MRdPost X q (.int .i64 (mnum 200 (mst (mfil 1 s).2).2).1) (mnum 200 (mst (mfil 1 s).2).2).2) from mnumber_any q 200 (mst (mfil 1 s).2).2 X hX (by decide))
 have HC3 := Lib.hid (fun X (hX : MRd X q (mnum 200 (mst (mfil 1 s).2).2).2) => mdig_any q (mnum 200 (mst (mfil 1 s).2).2).2 X hX)
 have HWF := Lib.hid (ment_rds.ok s h.all).1
 have HL1 := Lib.hid (mfil_len 1 s)
 have HV : Hid (ment s = (⟨(mfil 1 s).1.getD 0 0, (mst (mfil 1 s).2).1.1, (mst (mfil 1 s).2).1.2, (mnum 200 (mst (mfil 1 s).2).2).1, (mfil 32 (mnum 200 (mst (mfil 1 s).2).2).2).1, (mrep mblk (nblk (mnum 200 (mst (mfil 1 s).2).2).1) (mfil 32 (mnum 200 (mst (mfil 1 s).2).2).2).2 []).1⟩, (mrep mblk (nblk (mnum 200 (mst (mfil 1 s).2).2).1) (mfil 32 (mnum 200 (mst (mfil 1 s).2).2).2).2 []).2)) := Lib.hid rfl
 rw [HV.out] at HWF ⊢
 clear HV
 generalize mfil 1 s = x at *
 obtain ⟨la, s1⟩ := x
 dsimp only at HF HC1 HC2 HC3 HWF HL1 ⊢
 generalize mst s1 = x at *
 obtain ⟨⟨n, r⟩, s2⟩ := x
 dsimp only at HC1 HC2 HC3 HWF ⊢
 generalize mnum 200 s2 = x at *
 obtain ⟨len, s3⟩ := x
 dsimp only at HC2 HC3 HWF ⊢
 generalize mfil 32 s3 = x at *
 obtain ⟨ds, s0⟩ := x
 dsimp only at HC3 HWF ⊢
 have hno := one_getD HL1.out
 obtain ⟨no, hn0⟩ : ∃ no, la.getD 0 0 = no := ⟨_, rfl⟩
 rw [hn0] at HWF hno ⊢
 subst hno
 obtain ⟨w0, w1, w2, w3, w4, w5, w6, w7, w8⟩ := HWF.out
 dsimp only at w0 w1 w2 w3 w4 w5 w6 w7 w8
 have HDL := Lib.hid w5
 have HDB := Lib.hid w6
 have HMY := Lib.hid w2
 have HRG := Lib.hid (show 0 ≤ no ∧ no ≤ 255 ∧ 0 ≤ len ∧ len ≤ 200 from ⟨w0, w1, w3, w4⟩)
 have HWC := Lib.hid (IntWalk.i64_in no (by omega))
 have HBO := Lib.hid (blocksM_any len)
 have HNN := Lib.hid (show nblk len ≤ 25 by unfold nblk; split <;> omega)
 have HPP := Lib.hid (enPr_len (no := no) (n := n) (r := r) (len := len) w5)
 have HBD := Lib.hid (fun X => build_en4 w5 no n r len X)
 have HEZ := Lib.hid (show (KEn.cs enA0).toArray.size = (enPr no n r len ds ++ [Value.slice none 0 0]).toArray.size by rw [enA0_size, enPr_size w5])
 have HES := Lib.hid (show (Tryd.prog.info? 52).map (·.size) = some (enPr no n r len ds ++ [Value.slice none 0 0]).toArray.size by rw [sizeEnI, enPr_size w5])
 have HCALL := Lib.hid (fun (s : MS) (X : World) (hX : MRd X q s) => show Calls Tryd.prog 71 #[.pointer (some ⟨q, 0, none⟩)] X (MRdK TSg (fun x : Sg => x) X q (mblk s)) from (mblk_any q s X hX).mono (fun e w' hp => ⟨(mblk s).1, hp.1, rfl, (mblk_rds.ok s hX.all).1, trivial, hp.2.1, hp.2.2⟩))
 have HV : Hid (∀ (xs : List Sg) (sf : MS), mrep mblk (nblk len) s0 [] = (xs, sf) → ∀ (y : EnA) (w' : World), y.e = ⟨no, n, r, len, ds, xs⟩ → y.Ok w' → Tag 107 w' y.A → MRd w' q sf → w.grownBy w' (some q) → MRdK TEn (fun x : EnA => x.e) w q (⟨no, n, r, len, ds, (mrep mblk (nblk len) s0 []).1⟩, (mrep mblk (nblk len) s0 []).2) (.returned (KEn.v y)) w') := Lib.hid (fun xs sf h1 y w' h2 h3 h4 h5 h6 => by rw [h1]; exact ⟨y, rfl, h2, h3, h4, h5, h6⟩)
 generalize MRdK TEn (fun x : EnA => x.e) w q (⟨no, n, r, len, ds, (mrep mblk (nblk len) s0 []).1⟩, (mrep mblk (nblk len) s0 []).2) = POST at *
 have hz1 := sl_1A
 have hz := zeroEn
 rw [show KEn.v enA0 = .agg (KEn.cs enA0).toArray from rfl] at hz
 have hzne : ¬ (KEn.cs enA0).toArray = #[] := by decide
 clear h hh w0 w1 w2 w3 w4 w5 w6 w7 w8 HWF HL1 hn0
 go_enter Tryd.func56, Tryd.ntmps56
 go_wp2_with fail
 refine wp_region_held_drew (S := fun w' => True) (by kernel_rfl) trivial (fun hS => ?_)
 generalize World.drew _ = X0 at *
 refine wpHv (i := 0) (oi := ⟨some 5, _, _, _, _, _⟩) (v := ?_) rfl ?_ hS ?_; rotate_left; (focus (intro w9 hSw; go_simp; try with_reducible rfl)); simp only [Act.put, Z2, Z3, Z4]
 refine wpHv (i := 1) (oi := ⟨some 6, _, _, _, _, _⟩) (v := ?_) rfl ?_ hS ?_; rotate_left; (focus (intro w9 hSw; go_simp; try with_reducible rfl)); simp only [Act.put, Z2, Z3, Z4]
 refine wpHv (i := 2) (oi := ⟨some 7, _, _, _, _, _⟩) (v := ?_) rfl ?_ hS ?_; rotate_left; (focus (intro w9 hSw; go_simp; try with_reducible rfl)); simp only [Act.put, Z2, Z3, Z4]
 refine wpHv (i := 3) (oi := ⟨some 8, _, _, _, _, _⟩) (v := (.slice (some ⟨w.heap.size + 1, 0, none⟩) 1 1)) rfl ?_ hS ?_; (focus (intro w9 hSw; have q0 := hz1 (w.heap.size + 1) w9; go_simp; try rfl)); simp only [Act.put, Z2, Z3, Z4]
 refine wpAnyH_ready (rs := [4]) (by kernel_rfl) (by simp) (AllReadyH.cons (o := ⟨some 9, _, _, _, _, _⟩) rfl (fun K hK => ?_) AllReadyH.nil)
 go_simp
 refine HF.out.mono ?_
 rintro e X1 ⟨rfl, hr, hc, ho⟩
 have SB := Lib.hid (SD.out.fill HQ.out (Nat.lt_succ_self _) hr ho)
 have NB0 := hc
 rw [List.append_nil] at NB0
 have NB := Lib.hid (show X1.heap[w.heap.size + 1]? = some (.cells #[.int .u8 no] 132) from NB0)
 clear hr hc ho NB0 hz1
 refine hK.out _ _ trivial (fun hS => ?_)
 clear hK K
 try simp only [Act.put]
 refine wpAnyH_done (by kernel_rfl) ?_ _
 clear hS
 go_wp2_with fail
 refine wp_region_held_drew (S := fun w' => w'.heap[w.heap.size + 1]? = some (.cells #[.int .u8 no] 132)) (by kernel_rfl) (((Below.refl X1.heap.size X1).drew.block _ (Array.getElem?_eq_some_iff.1 NB.out).1).trans NB.out) (fun hS => ?_)
 have S0 := Lib.hid (show MSt w q s1 (KEn.cs enA0).toArray 52 (World.drew X1) from SB.out.more HQ.out (SB.out.rd.kept (row := none) (mrd_below ((Below.refl _ _).drew) (Nat.le_refl _)) (fun k e => by cases e)) (mrd_below ((Below.refl _ _).drew) (Nat.le_refl _)))
 have NN0 := Lib.hid hS
 generalize World.drew _ = Y0 at *
 refine wpHv (i := 0) (oi := ⟨some 10, _, _, _, _, _⟩) (v := (.pointer (some ⟨w.heap.size + 1, 0, none⟩))) rfl ?_ hS ?_; (focus (intro w9 hSw; go_simp; try rfl)); simp only [Act.put, Z2, Z3, Z4]
 refine wpHv (i := 1) (oi := ⟨some 11, _, _, _, _, _⟩) (v := (.int .u8 no)) rfl ?_ hS ?_; (focus (intro w9 hSw; have q0 : w9.cell? ⟨w.heap.size + 1, 0, none⟩ = some (.int .u8 no) := by { rw [cell_of_row _ _ _ _ _ _ hSw]; rfl }; go_simp; try rfl)); simp only [Act.put, Z2, Z3, Z4]
 refine wpHv (i := 2) (oi := ⟨some 12, _, _, _, _, _⟩) (v := (.int .i64 no)) rfl ?_ hS ?_; (focus (intro w9 hSw; have q0 := HWC.out; go_simp; try rfl)); simp only [Act.put, Z2, Z3, Z4]
 refine wpHv (i := 3) (oi := ⟨some 13, _, _, _, _, _⟩) (v := ?_) rfl ?_ hS ?_; rotate_left; (focus (intro w9 hSw; go_simp; try with_reducible rfl)); simp only [Act.put, Z2, Z3, Z4]
 refine wpHv (i := 4) (oi := ⟨some 14, _, _, _, _, _⟩) (v := ?_) rfl ?_ hS ?_; rotate_left; (focus (intro w9 hSw; go_simp; try with_reducible rfl)); simp only [Act.put, Z2, Z3, Z4]
 refine wpHv (i := 5) (oi := ⟨some 15, _, _, _, _, _⟩) (v := ?_) rfl ?_ hS ?_; rotate_left; (focus (intro w9 hSw; go_simp; try with_reducible rfl)); simp only [Act.put, Z2, Z3, Z4]
 refine wpHv (i := 7) (oi := ⟨some 17, _, _, _, _, _⟩) (v := ?_) rfl ?_ hS ?_; rotate_left; (focus (intro w9 hSw; go_simp; try with_reducible rfl)); simp only [Act.put, Z2, Z3, Z4]
 refine wpHv (i := 8) (oi := ⟨some 18, _, _, _, _, _⟩) (v := ?_) rfl ?_ hS ?_; rotate_left; (focus (intro w9 hSw; go_simp; try with_reducible rfl)); simp only [Act.put, Z2, Z3, Z4]
 refine wpHv (i := 9) (oi := ⟨some 19, _, _, _, _, _⟩) (v := ?_) rfl ?_ hS ?_; rotate_left; (focus (intro w9 hSw; go_simp; try with_reducible rfl)); simp only [Act.put, Z2, Z3, Z4]
 refine wpHv (i := 11) (oi := ⟨some 21, _, _, _, _, _⟩) (v := ?_) rfl ?_ hS ?_; rotate_left; (focus (intro w9 hSw; go_simp; try with_reducible rfl)); simp only [Act.put, Z2, Z3, Z4]
 refine wpHv (i := 12) (oi := ⟨some 22, _, _, _, _, _⟩) (v := ?_) rfl ?_ hS ?_; rotate_left; (focus (intro w9 hSw; go_simp; try with_reducible rfl)); simp only [Act.put, Z2, Z3, Z4]
 refine wpHv (i := 13) (oi := ⟨some 23, _, _, _, _, _⟩) (v := ?_) rfl ?_ hS ?_; rotate_left; (focus (intro w9 hSw; go_simp; try with_reducible rfl)); simp only [Act.put, Z2, Z3, Z4]
 refine wpAnyH_ready (rs := [6, 16]) (by kernel_rfl) (by simp) (AllReadyH.cons (o := ⟨some 16, _, _, _, _, _⟩) rfl (fun K hK => ?_) (AllReadyH.cons (o := ⟨some 4, _, _, _, _, _⟩) rfl (fun K hK => ?_) AllReadyH.nil))
 ·go_simp
  refine (HC1.out _ S0.out.rd).mono ?_
  rintro e Wz3 ⟨rfl, hr, hg⟩
  have S1 := Lib.hid (S0.out.more HQ.out hr hg)
  have NB2 := Lib.hid ((hg.block _ (Array.getElem?_eq_some_iff.1 NN0.out).1 (fun e => by have := Option.some.inj e; have := HQ.out; omega)).trans NN0.out)
  clear hr hg
  refine hK.out _ _ NB2.out (fun hS => ?_)
  clear hK K
  try simp only [Act.put, Z2, Z3, Z4]
  refine wpAnyH_ready (rs := [10, 16]) (by kernel_rfl) (by simp) (AllReadyH.cons (o := ⟨some 20, _, _, _, _, _⟩) rfl (fun K hK => ?_) (AllReadyH.cons (o := ⟨some 4, _, _, _, _, _⟩) rfl (fun K hK => ?_) AllReadyH.nil))
  ·go_simp
   refine (HC2.out _ S1.out.rd).mono ?_
   rintro e Wz6 ⟨rfl, hr, hg⟩
   have S4 := Lib.hid (S1.out.more HQ.out hr hg)
   have NB5 := Lib.hid ((hg.block _ (Array.getElem?_eq_some_iff.1 NB2.out).1 (fun e => by have := Option.some.inj e; have := HQ.out; omega)).trans NB2.out)
   clear hr hg
   refine hK.out _ _ NB5.out (fun hS => ?_)
   clear hK K
   try simp only [Act.put, Z2, Z3, Z4]
   refine wpAnyH_ready (rs := [14, 16]) (by kernel_rfl) (by simp) (AllReadyH.cons (o := ⟨some 24, _, _, _, _, _⟩) rfl (fun K hK => ?_) (AllReadyH.cons (o := ⟨some 4, _, _, _, _, _⟩) rfl (fun K hK => ?_) AllReadyH.nil))
   ·go_simp
    refine (HC3.out _ S4.out.rd).mono ?_
    rintro e Wz9 ⟨rfl, hr, hg⟩
    have S7 := Lib.hid (S4.out.more HQ.out hr hg)
    have NB8 := Lib.hid ((hg.block _ (Array.getElem?_eq_some_iff.1 NB5.out).1 (fun e => by have := Option.some.inj e; have := HQ.out; omega)).trans NB5.out)
    clear hr hg
    refine hK.out _ _ NB8.out (fun hS => ?_)
    clear hK K
    try simp only [Act.put, Z2, Z3, Z4]
    refine wpHv (i := 15) (oi := ⟨some 25, _, _, _, _, _⟩) (v := (.agg ((enPr no n r len ds) ++ [Value.slice none 0 0]).toArray)) rfl ?_ hS ?_; (focus (intro w9 hSw; exact exec_build_at 52 #[(0, .tmp 12), (1, .tmp 16), (2, .tmp 20), (3, .tmp 24)] rfl _ (by simp only [List.map_toArray, List.map_cons, List.map_nil]; rfl) (HBD.out w9))); simp only [Act.put, Z2, Z3, Z4]
    refine wpAnyH_ready (rs := [16]) (by kernel_rfl) (by simp) (AllReadyH.cons (o := ⟨some 4, _, _, _, _, _⟩) rfl (fun K hK => ?_) AllReadyH.nil)
    go_simp
    have S10 := Lib.hid (S7.out.old (.cells (KEn.cs enA0).toArray 52))
    have NB11 := Lib.hid ((((Below.refl Wz9.heap.size Wz9).alloc (Nat.le_refl _) (.cells (KEn.cs enA0).toArray 52)).block _ (Array.getElem?_eq_some_iff.1 NB8.out).1).trans NB8.out)
    have E13 := Lib.hid (show (Wz9.alloc (.cells (KEn.cs enA0).toArray 52)).heap[Wz9.heap.size]? = some (.cells (KEn.cs enA0).toArray 52) from heap_alloc_new Wz9 _)
    have E13g := Lib.hid (show w.heap.size + 1 < Wz9.heap.size from (Array.getElem?_eq_some_iff.1 NB8.out).1)
    refine hK.out _ _ NB11.out (fun hS => ?_)
    clear hK K
    try simp only [Act.put, Z2, Z3, Z4]
    generalize Wz9.alloc (.cells (KEn.cs enA0).toArray 52) = Wz14 at *
    generalize Wz9.heap.size = g12 at *
    refine wpAnyH_ready (rs := [17]) (by kernel_rfl) (by simp) (AllReadyH.cons (o := ⟨none, _, _, _, _, _⟩) rfl (fun K hK => ?_) AllReadyH.nil)
    refine step_storeM (o := ⟨none, _, _, _, _, _⟩) rfl 52 (.tmp 4) (.tmp 25) rfl g12 ((enPr no n r len ds) ++ [Value.slice none 0 0]).toArray rfl rfl 52 _ E13.out HES.out HEZ.out (enPr_one _ _ _ _ _ rfl) ?_
    have hgq := E13g.out
    have RE := Lib.hid (show (Wz14.setRow g12 ((enPr no n r len ds) ++ [Value.slice none 0 0]).toArray).heap[g12]? = some (.cells ((enPr no n r len ds) ++ [Value.slice none 0 0]).toArray 52) from setRow_heap _ _ _ _ _ _ E13.out)
    have NE := Lib.hid ((setRow_other Wz14 g12 (w.heap.size + 1) ((enPr no n r len ds) ++ [Value.slice none 0 0]).toArray (by omega)).trans NB11.out)
    have SE := Lib.hid (S10.out.own HQ.out (Y := (Wz14.setRow g12 ((enPr no n r len ds) ++ [Value.slice none 0 0]).toArray)) mrd_row (by omega))
    have hqw := HQ.out
    have R0 := Lib.hid (show RQ TSg 107 52 g12 (enPr no n r len ds) w q (KEn.cs enA0).toArray 52 s0 (.slice none 0 0) (.slice none 0 0) [] (Wz14.setRow g12 ((enPr no n r len ds) ++ [Value.slice none 0 0]).toArray) from ⟨SE.out.rd, SE.out.res, RE.out, World.ownsRow_nil _ _ _ _, (fun x hx => by cases hx), SE.out.grown, hqw, by omega⟩)
    refine hK.out _ _ NE.out (fun hS => ?_)
    clear hK K
    try simp only [Act.put]
    refine wpAnyH_done (by kernel_rfl) ?_ _
    clear hS hgq hqw
    have c3 : (Wz14.setRow g12 ((enPr no n r len ds) ++ [Value.slice none 0 0]).toArray).cell? ⟨g12, 3, none⟩ = some (.int .i64 len) := by rw [cell_of_row _ _ _ _ _ _ RE.out]; rfl
    generalize (Wz14.setRow g12 ((enPr no n r len ds) ++ [Value.slice none 0 0]).toArray) = W1 at *
    generalize g12 = bl at *
    have HB1 := Lib.hid (HBO.out W1 HRG.out.2.2.1 HRG.out.2.2.2)
    generalize hpre : enPr no n r len ds = pre at *
    have HPRE := Lib.hid hpre
    generalize nblk len = nn at *
    have HCR := Lib.hid enA0_size
    generalize (KEn.cs enA0).toArray = CR at *
    clear hpre HBD HEZ HES HC1 HC2 HC3 HF hzne hz
    go_wp2_with fail
    refine HB1.out.mono ?_
    rintro e W2 ⟨rfl, rfl⟩
    clear c3
    go_wp2
    go_loopw [29] (fun i wr => ∃ (k : Nat) (s : MS) (v : Value) (xs : List _), k ≤ nn ∧ i = .int .i64 k ∧ xs.length = k ∧ RQ TSg 107 52 bl pre w q CR 52 s v v xs wr ∧ mrep mblk nn s0 [] = mrep mblk (nn - k) s (xs.map (fun x : Sg => x))) (fun i _ => nn - (intOf i).toNat)
    case atStart => exact ⟨0, s0, _, [], Nat.zero_le _, rfl, rfl, R0.out, rfl⟩
    case round =>
     obtain ⟨k, s, v, xs, hk, rfl, hxk, hrq, hmr⟩ := hrel
     have RW := Lib.hid hrq
     have HXK := Lib.hid hxk
     have hnn := HNN.out
     by_cases hlt : k < nn
     ·have t2 : (k : Int) < (nn : Int) := by omega
      have HLT := Lib.hid hlt
      have HST := Lib.hid (hmr.trans (mrep_stepM hlt s (xs.map (fun x : Sg => x))))
      have HXL := Lib.hid (show xs.length ≤ 90000 by omega)
      have HC := Lib.hid (fun X (hX : MRd X q s) => HCALL.out s X hX)
      clear hrq hxk hmr hlt
      go_wp2_with fail
      refine wp_region_held_drew (S := fun w' => True) (by kernel_rfl) trivial (fun hS => ?_)
      have RD := Lib.hid RW.out.drew
      generalize World.drew _ = X at *
      refine wpHv (i := 0) (oi := ⟨some 31, _, _, _, _, _⟩) (v := ?_) rfl ?_ hS ?_; rotate_left; (focus (intro w9 hSw; go_simp; try with_reducible rfl)); simp only [Act.put, Z2, Z3, Z4]
      refine wpHv (i := 2) (oi := ⟨some 33, _, _, _, _, _⟩) (v := ?_) rfl ?_ hS ?_; rotate_left; (focus (intro w9 hSw; go_simp; try with_reducible rfl)); simp only [Act.put, Z2, Z3, Z4]
      refine wpAnyH_ready (rs := [1, 3]) (by kernel_rfl) (by simp) (AllReadyH.cons (o := ⟨some 32, _, _, _, _, _⟩) rfl (fun K hK => ?_) (AllReadyH.cons (o := ⟨some 34, _, _, _, _, _⟩) rfl (fun K hK => ?_) AllReadyH.nil))
      ·have g0 := RD.out.cell HPP.out
       go_simp
       clear g0
       refine hK.out _ _ trivial (fun hS => ?_)
       clear hK K
       try simp only [Act.put, Z2, Z3, Z4]
       refine wpAnyH_ready (rs := [3]) (by kernel_rfl) (by simp) (AllReadyH.cons (o := ⟨some 34, _, _, _, _, _⟩) rfl (fun K hK => ?_) AllReadyH.nil)
       go_simp
       refine (HC.out _ RD.out.rd).mono ?_
       rintro e X2 ⟨y, rfl, hcv, hok, htag, hr, hg⟩
       have R1 := Lib.hid (RD.out.call hr hg (by decide))
       have YO := Lib.hid (show TSg.K.ok _ y ∧ TSg.tag _ y from ⟨hok, htag⟩)
       have YL := Lib.hid (show (KSig.cs y).length = KSig.n from KSig.len hok)
       have HCV := Lib.hid hcv
       clear hcv hok htag hr hg
       refine hK.out _ _ trivial (fun hS => ?_)
       clear hK K
       try simp only [Act.put, Z2, Z3, Z4]
       refine wpAnyH_ready (rs := [4]) (by kernel_rfl) (by simp) (AllReadyH.cons (o := ⟨some 35, _, _, _, _, _⟩) rfl (fun K hK => ?_) AllReadyH.nil)
       refine step_bsliceK (K := KSig) rfl (.tmp 34) rfl y rfl YL.out Tryd.underlying50 sizeSigK zeroSig nSig ?_
       have R3 := Lib.hid (R1.out.alloc (.cells (KSig.cs y).toArray 107))
       have YO4 := Lib.hid (show TSg.K.ok (X2.alloc (.cells (KSig.cs y).toArray 107)) y ∧ TSg.tag (X2.alloc (.cells (KSig.cs y).toArray 107)) y from ⟨KSig.below YO.out.1 ((Below.refl _ _).alloc (Nat.le_refl _) (.cells (KSig.cs y).toArray 107)), TSg.below YO.out.2 ((Below.refl _ _).alloc (Nat.le_refl _) (.cells (KSig.cs y).toArray 107))⟩)
       refine hK.out _ _ trivial (fun hS => ?_)
       clear hK K
       try simp only [Act.put, Z2, Z3, Z4]
       refine wpAnyH_ready (rs := [5]) (by kernel_rfl) (by simp) (AllReadyH.cons (o := ⟨some 36, _, _, _, _, _⟩) rfl (fun K hK => ?_) AllReadyH.nil)
       obtain ⟨i0, hi, hz0, hz1, hz2⟩ := info_parts infoSig
       refine step_append_K (K := KSig) (o := ⟨some 36, _, _, _, _, _⟩) rfl _ _ 50 rfl (bl + 1) 107 i0 _ 36 Tryd.underlying50 hi hz0 hz1 hz2 (by decide) (by decide) v xs y rfl R3.out.own HXL.out YL.out rfl R3.out.lt ?_
       intro v3 X9 ho3 hg3
       obtain ⟨g13, cap13, rfl⟩ := ownsRow_succ ho3
       have M5 := Lib.hid (R3.out.app YO4.out ho3 hg3 (by decide))
       have RF := Lib.hid (M5.out.store (by decide) HPP.out)
       clear ho3 hg3
       refine hK.out _ _ trivial (fun hS => ?_)
       clear hK K
       try simp only [Act.put, Z2, Z3, Z4]
       refine wpHv (i := 6) (oi := ⟨some 37, _, _, _, _, _⟩) (v := ?_) rfl ?_ hS ?_; rotate_left; (focus (intro w9 hSw; go_simp; try with_reducible rfl)); simp only [Act.put, Z2, Z3, Z4]
       refine wpAnyH_ready (rs := [7]) (by kernel_rfl) (by simp) (AllReadyH.cons (o := ⟨none, _, _, _, _, _⟩) rfl (fun K hK => ?_) AllReadyH.nil)
       have g0 := M5.out.cell HPP.out
       have gf := M5.out.fz 36
       go_simp
       clear g0 gf
       refine hK.out _ _ trivial (fun hS => ?_)
       clear hK K
       try simp only [Act.put]
       refine wpAnyH_done (by kernel_rfl) ?_ _
       clear hS
       generalize hv4 : (Value.slice (some ⟨g13, 0, none⟩) (xs.length + 1) cap13) = v4 at *
       clear hv4
       go_wp2
       go_roundw
       case rel => exact ⟨k + 1, _, v4, xs ++ [y], by have := HLT.out; omega, by go_num, by rw [List.length_append, HXK.out]; rfl, RF.out, by rw [HST.out, List.map_append, ← HCV.out]; rfl⟩
       case measure => have := HLT.out; simp [intOf]; omega
      ·go_simp
       refine (HC.out _ RD.out.rd).mono ?_
       rintro e X7 ⟨y, rfl, hcv, hok, htag, hr, hg⟩
       have R6 := Lib.hid (RD.out.call hr hg (by decide))
       have YO := Lib.hid (show TSg.K.ok _ y ∧ TSg.tag _ y from ⟨hok, htag⟩)
       have YL := Lib.hid (show (KSig.cs y).length = KSig.n from KSig.len hok)
       have HCV := Lib.hid hcv
       clear hcv hok htag hr hg
       refine hK.out _ _ trivial (fun hS => ?_)
       clear hK K
       try simp only [Act.put, Z2, Z3, Z4]
       refine wpAnyH_ready (rs := [1, 4]) (by kernel_rfl) (by simp) (AllReadyH.cons (o := ⟨some 32, _, _, _, _, _⟩) rfl (fun K hK => ?_) (AllReadyH.cons (o := ⟨some 35, _, _, _, _, _⟩) rfl (fun K hK => ?_) AllReadyH.nil))
       ·have g0 := R6.out.cell HPP.out
        go_simp
        clear g0
        refine hK.out _ _ trivial (fun hS => ?_)
        clear hK K
        try simp only [Act.put, Z2, Z3, Z4]
        refine wpAnyH_ready (rs := [4]) (by kernel_rfl) (by simp) (AllReadyH.cons (o := ⟨some 35, _, _, _, _, _⟩) rfl (fun K hK => ?_) AllReadyH.nil)
        refine step_bsliceK (K := KSig) rfl (.tmp 34) rfl y rfl YL.out Tryd.underlying50 sizeSigK zeroSig nSig ?_
        have R8 := Lib.hid (R6.out.alloc (.cells (KSig.cs y).toArray 107))
        have YO9 := Lib.hid (show TSg.K.ok (X7.alloc (.cells (KSig.cs y).toArray 107)) y ∧ TSg.tag (X7.alloc (.cells (KSig.cs y).toArray 107)) y from ⟨KSig.below YO.out.1 ((Below.refl _ _).alloc (Nat.le_refl _) (.cells (KSig.cs y).toArray 107)), TSg.below YO.out.2 ((Below.refl _ _).alloc (Nat.le_refl _) (.cells (KSig.cs y).toArray 107))⟩)
        refine hK.out _ _ trivial (fun hS => ?_)
        clear hK K
        try simp only [Act.put, Z2, Z3, Z4]
        refine wpAnyH_ready (rs := [5]) (by kernel_rfl) (by simp) (AllReadyH.cons (o := ⟨some 36, _, _, _, _, _⟩) rfl (fun K hK => ?_) AllReadyH.nil)
        obtain ⟨i0, hi, hz0, hz1, hz2⟩ := info_parts infoSig
        refine step_append_K (K := KSig) (o := ⟨some 36, _, _, _, _, _⟩) rfl _ _ 50 rfl (bl + 1) 107 i0 _ 36 Tryd.underlying50 hi hz0 hz1 hz2 (by decide) (by decide) v xs y rfl R8.out.own HXL.out YL.out rfl R8.out.lt ?_
        intro v3 X9 ho3 hg3
        obtain ⟨g13, cap13, rfl⟩ := ownsRow_succ ho3
        have M10 := Lib.hid (R8.out.app YO9.out ho3 hg3 (by decide))
        have RF := Lib.hid (M10.out.store (by decide) HPP.out)
        clear ho3 hg3
        refine hK.out _ _ trivial (fun hS => ?_)
        clear hK K
        try simp only [Act.put, Z2, Z3, Z4]
        refine wpHv (i := 6) (oi := ⟨some 37, _, _, _, _, _⟩) (v := ?_) rfl ?_ hS ?_; rotate_left; (focus (intro w9 hSw; go_simp; try with_reducible rfl)); simp only [Act.put, Z2, Z3, Z4]
        refine wpAnyH_ready (rs := [7]) (by kernel_rfl) (by simp) (AllReadyH.cons (o := ⟨none, _, _, _, _, _⟩) rfl (fun K hK => ?_) AllReadyH.nil)
        have g0 := M10.out.cell HPP.out
        have gf := M10.out.fz 36
        go_simp
        clear g0 gf
        refine hK.out _ _ trivial (fun hS => ?_)
        clear hK K
        try simp only [Act.put]
        refine wpAnyH_done (by kernel_rfl) ?_ _
        clear hS
        generalize hv4 : (Value.slice (some ⟨g13, 0, none⟩) (xs.length + 1) cap13) = v4 at *
        clear hv4
        go_wp2
        go_roundw
        case rel => exact ⟨k + 1, _, v4, xs ++ [y], by have := HLT.out; omega, by go_num, by rw [List.length_append, HXK.out]; rfl, RF.out, by rw [HST.out, List.map_append, ← HCV.out]; rfl⟩
        case measure => have := HLT.out; simp [intOf]; omega
       ·refine step_bsliceK (K := KSig) rfl (.tmp 34) rfl y rfl YL.out Tryd.underlying50 sizeSigK zeroSig nSig ?_
        have R11 := Lib.hid (R6.out.alloc (.cells (KSig.cs y).toArray 107))
        have YO12 := Lib.hid (show TSg.K.ok (X7.alloc (.cells (KSig.cs y).toArray 107)) y ∧ TSg.tag (X7.alloc (.cells (KSig.cs y).toArray 107)) y from ⟨KSig.below YO.out.1 ((Below.refl _ _).alloc (Nat.le_refl _) (.cells (KSig.cs y).toArray 107)), TSg.below YO.out.2 ((Below.refl _ _).alloc (Nat.le_refl _) (.cells (KSig.cs y).toArray 107))⟩)
        refine hK.out _ _ trivial (fun hS => ?_)
        clear hK K
        try simp only [Act.put, Z2, Z3, Z4]
        refine wpAnyH_ready (rs := [1]) (by kernel_rfl) (by simp) (AllReadyH.cons (o := ⟨some 32, _, _, _, _, _⟩) rfl (fun K hK => ?_) AllReadyH.nil)
        have g0 := R11.out.cell HPP.out
        go_simp
        clear g0
        refine hK.out _ _ trivial (fun hS => ?_)
        clear hK K
        try simp only [Act.put, Z2, Z3, Z4]
        refine wpAnyH_ready (rs := [5]) (by kernel_rfl) (by simp) (AllReadyH.cons (o := ⟨some 36, _, _, _, _, _⟩) rfl (fun K hK => ?_) AllReadyH.nil)
        obtain ⟨i0, hi, hz0, hz1, hz2⟩ := info_parts infoSig
        refine step_append_K (K := KSig) (o := ⟨some 36, _, _, _, _, _⟩) rfl _ _ 50 rfl (bl + 1) 107 i0 _ 36 Tryd.underlying50 hi hz0 hz1 hz2 (by decide) (by decide) v xs y rfl R11.out.own HXL.out YL.out rfl R11.out.lt ?_
        intro v3 X9 ho3 hg3
        obtain ⟨g13, cap13, rfl⟩ := ownsRow_succ ho3
        have M13 := Lib.hid (R11.out.app YO12.out ho3 hg3 (by decide))
        have RF := Lib.hid (M13.out.store (by decide) HPP.out)
        clear ho3 hg3
        refine hK.out _ _ trivial (fun hS => ?_)
        clear hK K
        try simp only [Act.put, Z2, Z3, Z4]
        refine wpHv (i := 6) (oi := ⟨some 37, _, _, _, _, _⟩) (v := ?_) rfl ?_ hS ?_; rotate_left; (focus (intro w9 hSw; go_simp; try with_reducible rfl)); simp only [Act.put, Z2, Z3, Z4]
        refine wpAnyH_ready (rs := [7]) (by kernel_rfl) (by simp) (AllReadyH.cons (o := ⟨none, _, _, _, _, _⟩) rfl (fun K hK => ?_) AllReadyH.nil)
        have g0 := M13.out.cell HPP.out
        have gf := M13.out.fz 36
        go_simp
        clear g0 gf
        refine hK.out _ _ trivial (fun hS => ?_)
        clear hK K
        try simp only [Act.put]
        refine wpAnyH_done (by kernel_rfl) ?_ _
        clear hS
        generalize hv4 : (Value.slice (some ⟨g13, 0, none⟩) (xs.length + 1) cap13) = v4 at *
        clear hv4
        go_wp2
        go_roundw
        case rel => exact ⟨k + 1, _, v4, xs ++ [y], by have := HLT.out; omega, by go_num, by rw [List.length_append, HXK.out]; rfl, RF.out, by rw [HST.out, List.map_append, ← HCV.out]; rfl⟩
        case measure => have := HLT.out; simp [intOf]; omega
     ·have hkn : k = nn := by omega
      have t2 : ¬ (k : Int) < (nn : Int) := by omega
      have HM := Lib.hid (show mrep mblk nn s0 [] = (xs.map (fun x : Sg => x), s) from by rw [hmr, hkn, Nat.sub_self]; rfl)
      have HXN := Lib.hid (show xs.length = nn by omega)
      clear hrq hxk hmr hkn hlt hk
      obtain ⟨A9, c9, hv9⟩ : ∃ A9 c9, v = .slice A9 xs.length c9 := by
       rcases RW.out.own.2 with ⟨h1, h2⟩ | ⟨g, cp, cur, h1, _⟩
       ·exact ⟨none, 0, by rw [h1, h2]⟩
       ·exact ⟨_, cp, h1⟩
      subst hv9
      have RROW := Lib.hid (show KSig.row wr A9 c9 xs from Kind.row_own (K := KSig) RW.out.own (fun x hx => (RW.out.ok x hx).1))
      have RTAG := Lib.hid (show Tag 107 wr A9 from Tag.own RW.out.own)
      obtain ⟨y, hy⟩ : ∃ y : EnA, y = ⟨⟨no, n, r, len, ds, xs⟩, A9, c9⟩ := ⟨_, rfl⟩
      have BLK := Lib.hid (show KEn.blk 52 wr bl y from by rw [hy]; have h := RW.out.blk; rw [← HPRE.out] at h; exact h)
      have hmy := may_iff.1 HMY.out
      have hrg := HRG.out
      have OKF := Lib.hid (fun (X : World) (hX : KSig.row X A9 c9 xs) => show EnA.Ok X y from by rw [hy]; exact ⟨wf_smallM (by (try dsimp only); omega) (by (try dsimp only); omega), wf_smallM (by (try dsimp only); omega) (by (try dsimp only); omega), wf_smallM (by (try dsimp only); omega) (by (try dsimp only); omega), wf_smallM (by (try dsimp only); omega) (by (try dsimp only); omega), HDL.out, HDB.out, hX⟩)
      have OKY := Lib.hid (OKF.out wr RROW.out)
      have LX := Lib.hid (load_en (Kind.at_blk (K := KEn) BLK.out) OKY.out)
      have SZY := Lib.hid (en_size OKY.out)
      have SQY := Lib.hid (show CR.size = (KEn.cs y).toArray.size by rw [HCR.out, List.size_toArray]; exact (EnA.len OKY.out).symm)
      have SOY := Lib.hid (en_ones y)
      have DN := Lib.hid (RW.out.done (Y := wr.setRow w.heap.size (KEn.cs y).toArray) mrd_row (by decide) (by decide) rfl)
      have RR := Lib.hid (show (wr.setRow w.heap.size (KEn.cs y).toArray).heap[w.heap.size]? = some (.cells (KEn.cs y).toArray 52) from setRow_heap _ _ _ _ _ _ RW.out.res)
      have HYE := Lib.hid (show y.e = ⟨no, n, r, len, ds, xs⟩ by rw [hy])
      have HYA := Lib.hid (show y.A = A9 by rw [hy])
      have HFI := Lib.hid (HV.out xs s (by rw [HM.out]; simp) y _ HYE.out (OKF.out _ DN.out.2.2.2.1) (by rw [HYA.out]; exact DN.out.2.2.2.2) DN.out.1 DN.out.2.1)
      clear hy hmy hrg hnn
      go_wp2_with (first | ((with_reducible refine wpList_load_at (o := ⟨some 39, .load 52 (.tmp 4), _, _, _, _⟩) ?e1 52 (.tmp 4) ?e2 ⟨bl, 0, none⟩ ?e3 _ LX.out ?_); (case e1 => rfl); (case e2 => rfl); (case e3 => rfl)) | ((with_reducible refine wpList_store_row (o := ⟨none, .store 52 (.tmp 2) (.tmp 39), _, _, _, _⟩) ?e1 52 (.tmp 2) (.tmp 39) ?e2 w.heap.size (KEn.cs y).toArray ?e3 ?e4 52 _ RW.out.res SZY.out SQY.out SOY.out ?_); (case e1 => rfl); (case e2 => rfl); (case e3 => rfl); (case e4 => rfl)) | fail)
      refine bodyPost_ret (v := KEn.v y) ?_ rfl HFI.out
      exact results_cell_row Tryd.results56 _ _ w.heap.size 52 _ (0, 0) _ rfl RR.out Tryd.underlying52 rfl SZY.out
   ·go_simp
    have S15 := Lib.hid (S4.out.old (.cells (KEn.cs enA0).toArray 52))
    have NB16 := Lib.hid ((((Below.refl Wz6.heap.size Wz6).alloc (Nat.le_refl _) (.cells (KEn.cs enA0).toArray 52)).block _ (Array.getElem?_eq_some_iff.1 NB5.out).1).trans NB5.out)
    have E18 := Lib.hid (show (Wz6.alloc (.cells (KEn.cs enA0).toArray 52)).heap[Wz6.heap.size]? = some (.cells (KEn.cs enA0).toArray 52) from heap_alloc_new Wz6 _)
    have E18g := Lib.hid (show w.heap.size + 1 < Wz6.heap.size from (Array.getElem?_eq_some_iff.1 NB5.out).1)
    refine hK.out _ _ NB16.out (fun hS => ?_)
    clear hK K
    try simp only [Act.put, Z2, Z3, Z4]
    generalize Wz6.alloc (.cells (KEn.cs enA0).toArray 52) = Wz19 at *
    generalize Wz6.heap.size = g17 at *
    refine wpAnyH_ready (rs := [14]) (by kernel_rfl) (by simp) (AllReadyH.cons (o := ⟨some 24, _, _, _, _, _⟩) rfl (fun K hK => ?_) AllReadyH.nil)
    go_simp
    refine (HC3.out _ S15.out.rd).mono ?_
    rintro e Wz22 ⟨rfl, hr, hg⟩
    have S20 := Lib.hid (S15.out.more HQ.out hr hg)
    have NB21 := Lib.hid ((hg.block _ (Array.getElem?_eq_some_iff.1 NB16.out).1 (fun e => by have := Option.some.inj e; have := HQ.out; omega)).trans NB16.out)
    have E23 := Lib.hid ((hg.block _ (Array.getElem?_eq_some_iff.1 E18.out).1 (fun e => by have := Option.some.inj e; have := HQ.out; have := E18g.out; omega)).trans E18.out)
    have E23g := E18g
    clear hr hg
    refine hK.out _ _ NB21.out (fun hS => ?_)
    clear hK K
    try simp only [Act.put, Z2, Z3, Z4]
    refine wpHv (i := 15) (oi := ⟨some 25, _, _, _, _, _⟩) (v := (.agg ((enPr no n r len ds) ++ [Value.slice none 0 0]).toArray)) rfl ?_ hS ?_; (focus (intro w9 hSw; exact exec_build_at 52 #[(0, .tmp 12), (1, .tmp 16), (2, .tmp 20), (3, .tmp 24)] rfl _ (by simp only [List.map_toArray, List.map_cons, List.map_nil]; rfl) (HBD.out w9))); simp only [Act.put, Z2, Z3, Z4]
    refine wpAnyH_ready (rs := [17]) (by kernel_rfl) (by simp) (AllReadyH.cons (o := ⟨none, _, _, _, _, _⟩) rfl (fun K hK => ?_) AllReadyH.nil)
    refine step_storeM (o := ⟨none, _, _, _, _, _⟩) rfl 52 (.tmp 4) (.tmp 25) rfl g17 ((enPr no n r len ds) ++ [Value.slice none 0 0]).toArray rfl rfl 52 _ E23.out HES.out HEZ.out (enPr_one _ _ _ _ _ rfl) ?_
    have hgq := E23g.out
    have RE := Lib.hid (show (Wz22.setRow g17 ((enPr no n r len ds) ++ [Value.slice none 0 0]).toArray).heap[g17]? = some (.cells ((enPr no n r len ds) ++ [Value.slice none 0 0]).toArray 52) from setRow_heap _ _ _ _ _ _ E23.out)
    have NE := Lib.hid ((setRow_other Wz22 g17 (w.heap.size + 1) ((enPr no n r len ds) ++ [Value.slice none 0 0]).toArray (by omega)).trans NB21.out)
    have SE := Lib.hid (S20.out.own HQ.out (Y := (Wz22.setRow g17 ((enPr no n r len ds) ++ [Value.slice none 0 0]).toArray)) mrd_row (by omega))
    have hqw := HQ.out
    have R0 := Lib.hid (show RQ TSg 107 52 g17 (enPr no n r len ds) w q (KEn.cs enA0).toArray 52 s0 (.slice none 0 0) (.slice none 0 0) [] (Wz22.setRow g17 ((enPr no n r len ds) ++ [Value.slice none 0 0]).toArray) from ⟨SE.out.rd, SE.out.res, RE.out, World.ownsRow_nil _ _ _ _, (fun x hx => by cases hx), SE.out.grown, hqw, by omega⟩)
    refine hK.out _ _ NE.out (fun hS => ?_)
    clear hK K
    try simp only [Act.put]
    refine wpAnyH_done (by kernel_rfl) ?_ _
    clear hS hgq hqw
    have c3 : (Wz22.setRow g17 ((enPr no n r len ds) ++ [Value.slice none 0 0]).toArray).cell? ⟨g17, 3, none⟩ = some (.int .i64 len) := by rw [cell_of_row _ _ _ _ _ _ RE.out]; rfl
    generalize (Wz22.setRow g17 ((enPr no n r len ds) ++ [Value.slice none 0 0]).toArray) = W1 at *
    generalize g17 = bl at *
    have HB1 := Lib.hid (HBO.out W1 HRG.out.2.2.1 HRG.out.2.2.2)
    generalize hpre : enPr no n r len ds = pre at *
    have HPRE := Lib.hid hpre
    generalize nblk len = nn at *
    have HCR := Lib.hid enA0_size
    generalize (KEn.cs enA0).toArray = CR at *
    clear hpre HBD HEZ HES HC1 HC2 HC3 HF hzne hz
    go_wp2_with fail
    refine HB1.out.mono ?_
    rintro e W2 ⟨rfl, rfl⟩
    clear c3
    go_wp2
    go_loopw [29] (fun i wr => ∃ (k : Nat) (s : MS) (v : Value) (xs : List _), k ≤ nn ∧ i = .int .i64 k ∧ xs.length = k ∧ RQ TSg 107 52 bl pre w q CR 52 s v v xs wr ∧ mrep mblk nn s0 [] = mrep mblk (nn - k) s (xs.map (fun x : Sg => x))) (fun i _ => nn - (intOf i).toNat)
    case atStart => exact ⟨0, s0, _, [], Nat.zero_le _, rfl, rfl, R0.out, rfl⟩
    case round =>
     obtain ⟨k, s, v, xs, hk, rfl, hxk, hrq, hmr⟩ := hrel
     have RW := Lib.hid hrq
     have HXK := Lib.hid hxk
     have hnn := HNN.out
     by_cases hlt : k < nn
     ·have t2 : (k : Int) < (nn : Int) := by omega
      have HLT := Lib.hid hlt
      have HST := Lib.hid (hmr.trans (mrep_stepM hlt s (xs.map (fun x : Sg => x))))
      have HXL := Lib.hid (show xs.length ≤ 90000 by omega)
      have HC := Lib.hid (fun X (hX : MRd X q s) => HCALL.out s X hX)
      clear hrq hxk hmr hlt
      go_wp2_with fail
      refine wp_region_held_drew (S := fun w' => True) (by kernel_rfl) trivial (fun hS => ?_)
      have RD := Lib.hid RW.out.drew
      generalize World.drew _ = X at *
      refine wpHv (i := 0) (oi := ⟨some 31, _, _, _, _, _⟩) (v := ?_) rfl ?_ hS ?_; rotate_left; (focus (intro w9 hSw; go_simp; try with_reducible rfl)); simp only [Act.put, Z2, Z3, Z4]
      refine wpHv (i := 2) (oi := ⟨some 33, _, _, _, _, _⟩) (v := ?_) rfl ?_ hS ?_; rotate_left; (focus (intro w9 hSw; go_simp; try with_reducible rfl)); simp only [Act.put, Z2, Z3, Z4]
      refine wpAnyH_ready (rs := [1, 3]) (by kernel_rfl) (by simp) (AllReadyH.cons (o := ⟨some 32, _, _, _, _, _⟩) rfl (fun K hK => ?_) (AllReadyH.cons (o := ⟨some 34, _, _, _, _, _⟩) rfl (fun K hK => ?_) AllReadyH.nil))
      ·have g0 := RD.out.cell HPP.out
       go_simp
       clear g0
       refine hK.out _ _ trivial (fun hS => ?_)
       clear hK K
       try simp only [Act.put, Z2, Z3, Z4]
       refine wpAnyH_ready (rs := [3]) (by kernel_rfl) (by simp) (AllReadyH.cons (o := ⟨some 34, _, _, _, _, _⟩) rfl (fun K hK => ?_) AllReadyH.nil)
       go_simp
       refine (HC.out _ RD.out.rd).mono ?_
       rintro e X2 ⟨y, rfl, hcv, hok, htag, hr, hg⟩
       have R1 := Lib.hid (RD.out.call hr hg (by decide))
       have YO := Lib.hid (show TSg.K.ok _ y ∧ TSg.tag _ y from ⟨hok, htag⟩)
       have YL := Lib.hid (show (KSig.cs y).length = KSig.n from KSig.len hok)
       have HCV := Lib.hid hcv
       clear hcv hok htag hr hg
       refine hK.out _ _ trivial (fun hS => ?_)
       clear hK K
       try simp only [Act.put, Z2, Z3, Z4]
       refine wpAnyH_ready (rs := [4]) (by kernel_rfl) (by simp) (AllReadyH.cons (o := ⟨some 35, _, _, _, _, _⟩) rfl (fun K hK => ?_) AllReadyH.nil)
       refine step_bsliceK (K := KSig) rfl (.tmp 34) rfl y rfl YL.out Tryd.underlying50 sizeSigK zeroSig nSig ?_
       have R3 := Lib.hid (R1.out.alloc (.cells (KSig.cs y).toArray 107))
       have YO4 := Lib.hid (show TSg.K.ok (X2.alloc (.cells (KSig.cs y).toArray 107)) y ∧ TSg.tag (X2.alloc (.cells (KSig.cs y).toArray 107)) y from ⟨KSig.below YO.out.1 ((Below.refl _ _).alloc (Nat.le_refl _) (.cells (KSig.cs y).toArray 107)), TSg.below YO.out.2 ((Below.refl _ _).alloc (Nat.le_refl _) (.cells (KSig.cs y).toArray 107))⟩)
       refine hK.out _ _ trivial (fun hS => ?_)
       clear hK K
       try simp only [Act.put, Z2, Z3, Z4]
       refine wpAnyH_ready (rs := [5]) (by kernel_rfl) (by simp) (AllReadyH.cons (o := ⟨some 36, _, _, _, _, _⟩) rfl (fun K hK => ?_) AllReadyH.nil)
       obtain ⟨i0, hi, hz0, hz1, hz2⟩ := info_parts infoSig
       refine step_append_K (K := KSig) (o := ⟨some 36, _, _, _, _, _⟩) rfl _ _ 50 rfl (bl + 1) 107 i0 _ 36 Tryd.underlying50 hi hz0 hz1 hz2 (by decide) (by decide) v xs y rfl R3.out.own HXL.out YL.out rfl R3.out.lt ?_
       intro v3 X9 ho3 hg3
       obtain ⟨g13, cap13, rfl⟩ := ownsRow_succ ho3
       have M5 := Lib.hid (R3.out.app YO4.out ho3 hg3 (by decide))
       have RF := Lib.hid (M5.out.store (by decide) HPP.out)
       clear ho3 hg3
       refine hK.out _ _ trivial (fun hS => ?_)
       clear hK K
       try simp only [Act.put, Z2, Z3, Z4]
       refine wpHv (i := 6) (oi := ⟨some 37, _, _, _, _, _⟩) (v := ?_) rfl ?_ hS ?_; rotate_left; (focus (intro w9 hSw; go_simp; try with_reducible rfl)); simp only [Act.put, Z2, Z3, Z4]
       refine wpAnyH_ready (rs := [7]) (by kernel_rfl) (by simp) (AllReadyH.cons (o := ⟨none, _, _, _, _, _⟩) rfl (fun K hK => ?_) AllReadyH.nil)
       have g0 := M5.out.cell HPP.out
       have gf := M5.out.fz 36
       go_simp
       clear g0 gf
       refine hK.out _ _ trivial (fun hS => ?_)
       clear hK K
       try simp only [Act.put]
       refine wpAnyH_done (by kernel_rfl) ?_ _
       clear hS
       generalize hv4 : (Value.slice (some ⟨g13, 0, none⟩) (xs.length + 1) cap13) = v4 at *
       clear hv4
       go_wp2
       go_roundw
       case rel => exact ⟨k + 1, _, v4, xs ++ [y], by have := HLT.out; omega, by go_num, by rw [List.length_append, HXK.out]; rfl, RF.out, by rw [HST.out, List.map_append, ← HCV.out]; rfl⟩
       case measure => have := HLT.out; simp [intOf]; omega
      ·go_simp
       refine (HC.out _ RD.out.rd).mono ?_
       rintro e X7 ⟨y, rfl, hcv, hok, htag, hr, hg⟩
       have R6 := Lib.hid (RD.out.call hr hg (by decide))
       have YO := Lib.hid (show TSg.K.ok _ y ∧ TSg.tag _ y from ⟨hok, htag⟩)
       have YL := Lib.hid (show (KSig.cs y).length = KSig.n from KSig.len hok)
       have HCV := Lib.hid hcv
       clear hcv hok htag hr hg
       refine hK.out _ _ trivial (fun hS => ?_)
       clear hK K
       try simp only [Act.put, Z2, Z3, Z4]
       refine wpAnyH_ready (rs := [1, 4]) (by kernel_rfl) (by simp) (AllReadyH.cons (o := ⟨some 32, _, _, _, _, _⟩) rfl (fun K hK => ?_) (AllReadyH.cons (o := ⟨some 35, _, _, _, _, _⟩) rfl (fun K hK => ?_) AllReadyH.nil))
       ·have g0 := R6.out.cell HPP.out
        go_simp
        clear g0
        refine hK.out _ _ trivial (fun hS => ?_)
        clear hK K
        try simp only [Act.put, Z2, Z3, Z4]
        refine wpAnyH_ready (rs := [4]) (by kernel_rfl) (by simp) (AllReadyH.cons (o := ⟨some 35, _, _, _, _, _⟩) rfl (fun K hK => ?_) AllReadyH.nil)
        refine step_bsliceK (K := KSig) rfl (.tmp 34) rfl y rfl YL.out Tryd.underlying50 sizeSigK zeroSig nSig ?_
        have R8 := Lib.hid (R6.out.alloc (.cells (KSig.cs y).toArray 107))
        have YO9 := Lib.hid (show TSg.K.ok (X7.alloc (.cells (KSig.cs y).toArray 107)) y ∧ TSg.tag (X7.alloc (.cells (KSig.cs y).toArray 107)) y from ⟨KSig.below YO.out.1 ((Below.refl _ _).alloc (Nat.le_refl _) (.cells (KSig.cs y).toArray 107)), TSg.below YO.out.2 ((Below.refl _ _).alloc (Nat.le_refl _) (.cells (KSig.cs y).toArray 107))⟩)
        refine hK.out _ _ trivial (fun hS => ?_)
        clear hK K
        try simp only [Act.put, Z2, Z3, Z4]
        refine wpAnyH_ready (rs := [5]) (by kernel_rfl) (by simp) (AllReadyH.cons (o := ⟨some 36, _, _, _, _, _⟩) rfl (fun K hK => ?_) AllReadyH.nil)
        obtain ⟨i0, hi, hz0, hz1, hz2⟩ := info_parts infoSig
        refine step_append_K (K := KSig) (o := ⟨some 36, _, _, _, _, _⟩) rfl _ _ 50 rfl (bl + 1) 107 i0 _ 36 Tryd.underlying50 hi hz0 hz1 hz2 (by decide) (by decide) v xs y rfl R8.out.own HXL.out YL.out rfl R8.out.lt ?_
        intro v3 X9 ho3 hg3
        obtain ⟨g13, cap13, rfl⟩ := ownsRow_succ ho3
        have M10 := Lib.hid (R8.out.app YO9.out ho3 hg3 (by decide))
        have RF := Lib.hid (M10.out.store (by decide) HPP.out)
        clear ho3 hg3
        refine hK.out _ _ trivial (fun hS => ?_)
        clear hK K
        try simp only [Act.put, Z2, Z3, Z4]
        refine wpHv (i := 6) (oi := ⟨some 37, _, _, _, _, _⟩) (v := ?_) rfl ?_ hS ?_; rotate_left; (focus (intro w9 hSw; go_simp; try with_reducible rfl)); simp only [Act.put, Z2, Z3, Z4]
        refine wpAnyH_ready (rs := [7]) (by kernel_rfl) (by simp) (AllReadyH.cons (o := ⟨none, _, _, _, _, _⟩) rfl (fun K hK => ?_) AllReadyH.nil)
        have g0 := M10.out.cell HPP.out
        have gf := M10.out.fz 36
        go_simp
        clear g0 gf
        refine hK.out _ _ trivial (fun hS => ?_)
        clear hK K
        try simp only [Act.put]
        refine wpAnyH_done (by kernel_rfl) ?_ _
        clear hS
        generalize hv4 : (Value.slice (some ⟨g13, 0, none⟩) (xs.length + 1) cap13) = v4 at *
        clear hv4
        go_wp2
        go_roundw
        case rel => exact ⟨k + 1, _, v4, xs ++ [y], by have := HLT.out; omega, by go_num, by rw [List.length_append, HXK.out]; rfl, RF.out, by rw [HST.out, List.map_append, ← HCV.out]; rfl⟩
        case measure => have := HLT.out; simp [intOf]; omega
       ·refine step_bsliceK (K := KSig) rfl (.tmp 34) rfl y rfl YL.out Tryd.underlying50 sizeSigK zeroSig nSig ?_
        have R11 := Lib.hid (R6.out.alloc (.cells (KSig.cs y).toArray 107))
        have YO12 := Lib.hid (show TSg.K.ok (X7.alloc (.cells (KSig.cs y).toArray 107)) y ∧ TSg.tag (X7.alloc (.cells (KSig.cs y).toArray 107)) y from ⟨KSig.below YO.out.1 ((Below.refl _ _).alloc (Nat.le_refl _) (.cells (KSig.cs y).toArray 107)), TSg.below YO.out.2 ((Below.refl _ _).alloc (Nat.le_refl _) (.cells (KSig.cs y).toArray 107))⟩)
        refine hK.out _ _ trivial (fun hS => ?_)
        clear hK K
        try simp only [Act.put, Z2, Z3, Z4]
        refine wpAnyH_ready (rs := [1]) (by kernel_rfl) (by simp) (AllReadyH.cons (o := ⟨some 32, _, _, _, _, _⟩) rfl (fun K hK => ?_) AllReadyH.nil)
        have g0 := R11.out.cell HPP.out
        go_simp
        clear g0
        refine hK.out _ _ trivial (fun hS => ?_)
        clear hK K
        try simp only [Act.put, Z2, Z3, Z4]
        refine wpAnyH_ready (rs := [5]) (by kernel_rfl) (by simp) (AllReadyH.cons (o := ⟨some 36, _, _, _, _, _⟩) rfl (fun K hK => ?_) AllReadyH.nil)
        obtain ⟨i0, hi, hz0, hz1, hz2⟩ := info_parts infoSig
        refine step_append_K (K := KSig) (o := ⟨some 36, _, _, _, _, _⟩) rfl _ _ 50 rfl (bl + 1) 107 i0 _ 36 Tryd.underlying50 hi hz0 hz1 hz2 (by decide) (by decide) v xs y rfl R11.out.own HXL.out YL.out rfl R11.out.lt ?_
        intro v3 X9 ho3 hg3
        obtain ⟨g13, cap13, rfl⟩ := ownsRow_succ ho3
        have M13 := Lib.hid (R11.out.app YO12.out ho3 hg3 (by decide))
        have RF := Lib.hid (M13.out.store (by decide) HPP.out)
        clear ho3 hg3
        refine hK.out _ _ trivial (fun hS => ?_)
        clear hK K
        try simp only [Act.put, Z2, Z3, Z4]
        refine wpHv (i := 6) (oi := ⟨some 37, _, _, _, _, _⟩) (v := ?_) rfl ?_ hS ?_; rotate_left; (focus (intro w9 hSw; go_simp; try with_reducible rfl)); simp only [Act.put, Z2, Z3, Z4]
        refine wpAnyH_ready (rs := [7]) (by kernel_rfl) (by simp) (AllReadyH.cons (o := ⟨none, _, _, _, _, _⟩) rfl (fun K hK => ?_) AllReadyH.nil)
        have g0 := M13.out.cell HPP.out
        have gf := M13.out.fz 36
        go_simp
        clear g0 gf
        refine hK.out _ _ trivial (fun hS => ?_)
        clear hK K
        try simp only [Act.put]
        refine wpAnyH_done (by kernel_rfl) ?_ _
        clear hS
        generalize hv4 : (Value.slice (some ⟨g13, 0, none⟩) (xs.length + 1) cap13) = v4 at *
        clear hv4
        go_wp2
        go_roundw
        case rel => exact ⟨k + 1, _, v4, xs ++ [y], by have := HLT.out; omega, by go_num, by rw [List.length_append, HXK.out]; rfl, RF.out, by rw [HST.out, List.map_append, ← HCV.out]; rfl⟩
        case measure => have := HLT.out; simp [intOf]; omega
     ·have hkn : k = nn := by omega
      have t2 : ¬ (k : Int) < (nn : Int) := by omega
      have HM := Lib.hid (show mrep mblk nn s0 [] = (xs.map (fun x : Sg => x), s) from by rw [hmr, hkn, Nat.sub_self]; rfl)
      have HXN := Lib.hid (show xs.length = nn by omega)
      clear hrq hxk hmr hkn hlt hk
      obtain ⟨A9, c9, hv9⟩ : ∃ A9 c9, v = .slice A9 xs.length c9 := by
       rcases RW.out.own.2 with ⟨h1, h2⟩ | ⟨g, cp, cur, h1, _⟩
       ·exact ⟨none, 0, by rw [h1, h2]⟩
       ·exact ⟨_, cp, h1⟩
      subst hv9
      have RROW := Lib.hid (show KSig.row wr A9 c9 xs from Kind.row_own (K := KSig) RW.out.own (fun x hx => (RW.out.ok x hx).1))
      have RTAG := Lib.hid (show Tag 107 wr A9 from Tag.own RW.out.own)
      obtain ⟨y, hy⟩ : ∃ y : EnA, y = ⟨⟨no, n, r, len, ds, xs⟩, A9, c9⟩ := ⟨_, rfl⟩
      have BLK := Lib.hid (show KEn.blk 52 wr bl y from by rw [hy]; have h := RW.out.blk; rw [← HPRE.out] at h; exact h)
      have hmy := may_iff.1 HMY.out
      have hrg := HRG.out
      have OKF := Lib.hid (fun (X : World) (hX : KSig.row X A9 c9 xs) => show EnA.Ok X y from by rw [hy]; exact ⟨wf_smallM (by (try dsimp only); omega) (by (try dsimp only); omega), wf_smallM (by (try dsimp only); omega) (by (try dsimp only); omega), wf_smallM (by (try dsimp only); omega) (by (try dsimp only); omega), wf_smallM (by (try dsimp only); omega) (by (try dsimp only); omega), HDL.out, HDB.out, hX⟩)
      have OKY := Lib.hid (OKF.out wr RROW.out)
      have LX := Lib.hid (load_en (Kind.at_blk (K := KEn) BLK.out) OKY.out)
      have SZY := Lib.hid (en_size OKY.out)
      have SQY := Lib.hid (show CR.size = (KEn.cs y).toArray.size by rw [HCR.out, List.size_toArray]; exact (EnA.len OKY.out).symm)
      have SOY := Lib.hid (en_ones y)
      have DN := Lib.hid (RW.out.done (Y := wr.setRow w.heap.size (KEn.cs y).toArray) mrd_row (by decide) (by decide) rfl)
      have RR := Lib.hid (show (wr.setRow w.heap.size (KEn.cs y).toArray).heap[w.heap.size]? = some (.cells (KEn.cs y).toArray 52) from setRow_heap _ _ _ _ _ _ RW.out.res)
      have HYE := Lib.hid (show y.e = ⟨no, n, r, len, ds, xs⟩ by rw [hy])
      have HYA := Lib.hid (show y.A = A9 by rw [hy])
      have HFI := Lib.hid (HV.out xs s (by rw [HM.out]; simp) y _ HYE.out (OKF.out _ DN.out.2.2.2.1) (by rw [HYA.out]; exact DN.out.2.2.2.2) DN.out.1 DN.out.2.1)
      clear hy hmy hrg hnn
      go_wp2_with (first | ((with_reducible refine wpList_load_at (o := ⟨some 39, .load 52 (.tmp 4), _, _, _, _⟩) ?e1 52 (.tmp 4) ?e2 ⟨bl, 0, none⟩ ?e3 _ LX.out ?_); (case e1 => rfl); (case e2 => rfl); (case e3 => rfl)) | ((with_reducible refine wpList_store_row (o := ⟨none, .store 52 (.tmp 2) (.tmp 39), _, _, _, _⟩) ?e1 52 (.tmp 2) (.tmp 39) ?e2 w.heap.size (KEn.cs y).toArray ?e3 ?e4 52 _ RW.out.res SZY.out SQY.out SOY.out ?_); (case e1 => rfl); (case e2 => rfl); (case e3 => rfl); (case e4 => rfl)) | fail)
      refine bodyPost_ret (v := KEn.v y) ?_ rfl HFI.out
      exact results_cell_row Tryd.results56 _ _ w.heap.size 52 _ (0, 0) _ rfl RR.out Tryd.underlying52 rfl SZY.out
  ·go_simp
   have S24 := Lib.hid (S1.out.old (.cells (KEn.cs enA0).toArray 52))
   have NB25 := Lib.hid ((((Below.refl Wz3.heap.size Wz3).alloc (Nat.le_refl _) (.cells (KEn.cs enA0).toArray 52)).block _ (Array.getElem?_eq_some_iff.1 NB2.out).1).trans NB2.out)
   have E27 := Lib.hid (show (Wz3.alloc (.cells (KEn.cs enA0).toArray 52)).heap[Wz3.heap.size]? = some (.cells (KEn.cs enA0).toArray 52) from heap_alloc_new Wz3 _)
   have E27g := Lib.hid (show w.heap.size + 1 < Wz3.heap.size from (Array.getElem?_eq_some_iff.1 NB2.out).1)
   refine hK.out _ _ NB25.out (fun hS => ?_)
   clear hK K
   try simp only [Act.put, Z2, Z3, Z4]
   generalize Wz3.alloc (.cells (KEn.cs enA0).toArray 52) = Wz28 at *
   generalize Wz3.heap.size = g26 at *
   refine wpAnyH_ready (rs := [10]) (by kernel_rfl) (by simp) (AllReadyH.cons (o := ⟨some 20, _, _, _, _, _⟩) rfl (fun K hK => ?_) AllReadyH.nil)
   go_simp
   refine (HC2.out _ S24.out.rd).mono ?_
   rintro e Wz31 ⟨rfl, hr, hg⟩
   have S29 := Lib.hid (S24.out.more HQ.out hr hg)
   have NB30 := Lib.hid ((hg.block _ (Array.getElem?_eq_some_iff.1 NB25.out).1 (fun e => by have := Option.some.inj e; have := HQ.out; omega)).trans NB25.out)
   have E32 := Lib.hid ((hg.block _ (Array.getElem?_eq_some_iff.1 E27.out).1 (fun e => by have := Option.some.inj e; have := HQ.out; have := E27g.out; omega)).trans E27.out)
   have E32g := E27g
   clear hr hg
   refine hK.out _ _ NB30.out (fun hS => ?_)
   clear hK K
   try simp only [Act.put, Z2, Z3, Z4]
   refine wpAnyH_ready (rs := [14]) (by kernel_rfl) (by simp) (AllReadyH.cons (o := ⟨some 24, _, _, _, _, _⟩) rfl (fun K hK => ?_) AllReadyH.nil)
   go_simp
   refine (HC3.out _ S29.out.rd).mono ?_
   rintro e Wz35 ⟨rfl, hr, hg⟩
   have S33 := Lib.hid (S29.out.more HQ.out hr hg)
   have NB34 := Lib.hid ((hg.block _ (Array.getElem?_eq_some_iff.1 NB30.out).1 (fun e => by have := Option.some.inj e; have := HQ.out; omega)).trans NB30.out)
   have E36 := Lib.hid ((hg.block _ (Array.getElem?_eq_some_iff.1 E32.out).1 (fun e => by have := Option.some.inj e; have := HQ.out; have := E32g.out; omega)).trans E32.out)
   have E36g := E32g
   clear hr hg
   refine hK.out _ _ NB34.out (fun hS => ?_)
   clear hK K
   try simp only [Act.put, Z2, Z3, Z4]
   refine wpHv (i := 15) (oi := ⟨some 25, _, _, _, _, _⟩) (v := (.agg ((enPr no n r len ds) ++ [Value.slice none 0 0]).toArray)) rfl ?_ hS ?_; (focus (intro w9 hSw; exact exec_build_at 52 #[(0, .tmp 12), (1, .tmp 16), (2, .tmp 20), (3, .tmp 24)] rfl _ (by simp only [List.map_toArray, List.map_cons, List.map_nil]; rfl) (HBD.out w9))); simp only [Act.put, Z2, Z3, Z4]
   refine wpAnyH_ready (rs := [17]) (by kernel_rfl) (by simp) (AllReadyH.cons (o := ⟨none, _, _, _, _, _⟩) rfl (fun K hK => ?_) AllReadyH.nil)
   refine step_storeM (o := ⟨none, _, _, _, _, _⟩) rfl 52 (.tmp 4) (.tmp 25) rfl g26 ((enPr no n r len ds) ++ [Value.slice none 0 0]).toArray rfl rfl 52 _ E36.out HES.out HEZ.out (enPr_one _ _ _ _ _ rfl) ?_
   have hgq := E36g.out
   have RE := Lib.hid (show (Wz35.setRow g26 ((enPr no n r len ds) ++ [Value.slice none 0 0]).toArray).heap[g26]? = some (.cells ((enPr no n r len ds) ++ [Value.slice none 0 0]).toArray 52) from setRow_heap _ _ _ _ _ _ E36.out)
   have NE := Lib.hid ((setRow_other Wz35 g26 (w.heap.size + 1) ((enPr no n r len ds) ++ [Value.slice none 0 0]).toArray (by omega)).trans NB34.out)
   have SE := Lib.hid (S33.out.own HQ.out (Y := (Wz35.setRow g26 ((enPr no n r len ds) ++ [Value.slice none 0 0]).toArray)) mrd_row (by omega))
   have hqw := HQ.out
   have R0 := Lib.hid (show RQ TSg 107 52 g26 (enPr no n r len ds) w q (KEn.cs enA0).toArray 52 s0 (.slice none 0 0) (.slice none 0 0) [] (Wz35.setRow g26 ((enPr no n r len ds) ++ [Value.slice none 0 0]).toArray) from ⟨SE.out.rd, SE.out.res, RE.out, World.ownsRow_nil _ _ _ _, (fun x hx => by cases hx), SE.out.grown, hqw, by omega⟩)
   refine hK.out _ _ NE.out (fun hS => ?_)
   clear hK K
   try simp only [Act.put]
   refine wpAnyH_done (by kernel_rfl) ?_ _
   clear hS hgq hqw
   have c3 : (Wz35.setRow g26 ((enPr no n r len ds) ++ [Value.slice none 0 0]).toArray).cell? ⟨g26, 3, none⟩ = some (.int .i64 len) := by rw [cell_of_row _ _ _ _ _ _ RE.out]; rfl
   generalize (Wz35.setRow g26 ((enPr no n r len ds) ++ [Value.slice none 0 0]).toArray) = W1 at *
   generalize g26 = bl at *
   have HB1 := Lib.hid (HBO.out W1 HRG.out.2.2.1 HRG.out.2.2.2)
   generalize hpre : enPr no n r len ds = pre at *
   have HPRE := Lib.hid hpre
   generalize nblk len = nn at *
   have HCR := Lib.hid enA0_size
   generalize (KEn.cs enA0).toArray = CR at *
   clear hpre HBD HEZ HES HC1 HC2 HC3 HF hzne hz
   go_wp2_with fail
   refine HB1.out.mono ?_
   rintro e W2 ⟨rfl, rfl⟩
   clear c3
   go_wp2
   go_loopw [29] (fun i wr => ∃ (k : Nat) (s : MS) (v : Value) (xs : List _), k ≤ nn ∧ i = .int .i64 k ∧ xs.length = k ∧ RQ TSg 107 52 bl pre w q CR 52 s v v xs wr ∧ mrep mblk nn s0 [] = mrep mblk (nn - k) s (xs.map (fun x : Sg => x))) (fun i _ => nn - (intOf i).toNat)
   case atStart => exact ⟨0, s0, _, [], Nat.zero_le _, rfl, rfl, R0.out, rfl⟩
   case round =>
    obtain ⟨k, s, v, xs, hk, rfl, hxk, hrq, hmr⟩ := hrel
    have RW := Lib.hid hrq
    have HXK := Lib.hid hxk
    have hnn := HNN.out
    by_cases hlt : k < nn
    ·have t2 : (k : Int) < (nn : Int) := by omega
     have HLT := Lib.hid hlt
     have HST := Lib.hid (hmr.trans (mrep_stepM hlt s (xs.map (fun x : Sg => x))))
     have HXL := Lib.hid (show xs.length ≤ 90000 by omega)
     have HC := Lib.hid (fun X (hX : MRd X q s) => HCALL.out s X hX)
     clear hrq hxk hmr hlt
     go_wp2_with fail
     refine wp_region_held_drew (S := fun w' => True) (by kernel_rfl) trivial (fun hS => ?_)
     have RD := Lib.hid RW.out.drew
     generalize World.drew _ = X at *
     refine wpHv (i := 0) (oi := ⟨some 31, _, _, _, _, _⟩) (v := ?_) rfl ?_ hS ?_; rotate_left; (focus (intro w9 hSw; go_simp; try with_reducible rfl)); simp only [Act.put, Z2, Z3, Z4]
     refine wpHv (i := 2) (oi := ⟨some 33, _, _, _, _, _⟩) (v := ?_) rfl ?_ hS ?_; rotate_left; (focus (intro w9 hSw; go_simp; try with_reducible rfl)); simp only [Act.put, Z2, Z3, Z4]
     refine wpAnyH_ready (rs := [1, 3]) (by kernel_rfl) (by simp) (AllReadyH.cons (o := ⟨some 32, _, _, _, _, _⟩) rfl (fun K hK => ?_) (AllReadyH.cons (o := ⟨some 34, _, _, _, _, _⟩) rfl (fun K hK => ?_) AllReadyH.nil))
     ·have g0 := RD.out.cell HPP.out
      go_simp
      clear g0
      refine hK.out _ _ trivial (fun hS => ?_)
      clear hK K
      try simp only [Act.put, Z2, Z3, Z4]
      refine wpAnyH_ready (rs := [3]) (by kernel_rfl) (by simp) (AllReadyH.cons (o := ⟨some 34, _, _, _, _, _⟩) rfl (fun K hK => ?_) AllReadyH.nil)
      go_simp
      refine (HC.out _ RD.out.rd).mono ?_
      rintro e X2 ⟨y, rfl, hcv, hok, htag, hr, hg⟩
      have R1 := Lib.hid (RD.out.call hr hg (by decide))
      have YO := Lib.hid (show TSg.K.ok _ y ∧ TSg.tag _ y from ⟨hok, htag⟩)
      have YL := Lib.hid (show (KSig.cs y).length = KSig.n from KSig.len hok)
      have HCV := Lib.hid hcv
      clear hcv hok htag hr hg
      refine hK.out _ _ trivial (fun hS => ?_)
      clear hK K
      try simp only [Act.put, Z2, Z3, Z4]
      refine wpAnyH_ready (rs := [4]) (by kernel_rfl) (by simp) (AllReadyH.cons (o := ⟨some 35, _, _, _, _, _⟩) rfl (fun K hK => ?_) AllReadyH.nil)
      refine step_bsliceK (K := KSig) rfl (.tmp 34) rfl y rfl YL.out Tryd.underlying50 sizeSigK zeroSig nSig ?_
      have R3 := Lib.hid (R1.out.alloc (.cells (KSig.cs y).toArray 107))
      have YO4 := Lib.hid (show TSg.K.ok (X2.alloc (.cells (KSig.cs y).toArray 107)) y ∧ TSg.tag (X2.alloc (.cells (KSig.cs y).toArray 107)) y from ⟨KSig.below YO.out.1 ((Below.refl _ _).alloc (Nat.le_refl _) (.cells (KSig.cs y).toArray 107)), TSg.below YO.out.2 ((Below.refl _ _).alloc (Nat.le_refl _) (.cells (KSig.cs y).toArray 107))⟩)
      refine hK.out _ _ trivial (fun hS => ?_)
      clear hK K
      try simp only [Act.put, Z2, Z3, Z4]
      refine wpAnyH_ready (rs := [5]) (by kernel_rfl) (by simp) (AllReadyH.cons (o := ⟨some 36, _, _, _, _, _⟩) rfl (fun K hK => ?_) AllReadyH.nil)
      obtain ⟨i0, hi, hz0, hz1, hz2⟩ := info_parts infoSig
      refine step_append_K (K := KSig) (o := ⟨some 36, _, _, _, _, _⟩) rfl _ _ 50 rfl (bl + 1) 107 i0 _ 36 Tryd.underlying50 hi hz0 hz1 hz2 (by decide) (by decide) v xs y rfl R3.out.own HXL.out YL.out rfl R3.out.lt ?_
      intro v3 X9 ho3 hg3
      obtain ⟨g13, cap13, rfl⟩ := ownsRow_succ ho3
      have M5 := Lib.hid (R3.out.app YO4.out ho3 hg3 (by decide))
      have RF := Lib.hid (M5.out.store (by decide) HPP.out)
      clear ho3 hg3
      refine hK.out _ _ trivial (fun hS => ?_)
      clear hK K
      try simp only [Act.put, Z2, Z3, Z4]
      refine wpHv (i := 6) (oi := ⟨some 37, _, _, _, _, _⟩) (v := ?_) rfl ?_ hS ?_; rotate_left; (focus (intro w9 hSw; go_simp; try with_reducible rfl)); simp only [Act.put, Z2, Z3, Z4]
      refine wpAnyH_ready (rs := [7]) (by kernel_rfl) (by simp) (AllReadyH.cons (o := ⟨none, _, _, _, _, _⟩) rfl (fun K hK => ?_) AllReadyH.nil)
      have g0 := M5.out.cell HPP.out
      have gf := M5.out.fz 36
      go_simp
      clear g0 gf
      refine hK.out _ _ trivial (fun hS => ?_)
      clear hK K
      try simp only [Act.put]
      refine wpAnyH_done (by kernel_rfl) ?_ _
      clear hS
      generalize hv4 : (Value.slice (some ⟨g13, 0, none⟩) (xs.length + 1) cap13) = v4 at *
      clear hv4
      go_wp2
      go_roundw
      case rel => exact ⟨k + 1, _, v4, xs ++ [y], by have := HLT.out; omega, by go_num, by rw [List.length_append, HXK.out]; rfl, RF.out, by rw [HST.out, List.map_append, ← HCV.out]; rfl⟩
      case measure => have := HLT.out; simp [intOf]; omega
     ·go_simp
      refine (HC.out _ RD.out.rd).mono ?_
      rintro e X7 ⟨y, rfl, hcv, hok, htag, hr, hg⟩
      have R6 := Lib.hid (RD.out.call hr hg (by decide))
      have YO := Lib.hid (show TSg.K.ok _ y ∧ TSg.tag _ y from ⟨hok, htag⟩)
      have YL := Lib.hid (show (KSig.cs y).length = KSig.n from KSig.len hok)
      have HCV := Lib.hid hcv
      clear hcv hok htag hr hg
      refine hK.out _ _ trivial (fun hS => ?_)
      clear hK K
      try simp only [Act.put, Z2, Z3, Z4]
      refine wpAnyH_ready (rs := [1, 4]) (by kernel_rfl) (by simp) (AllReadyH.cons (o := ⟨some 32, _, _, _, _, _⟩) rfl (fun K hK => ?_) (AllReadyH.cons (o := ⟨some 35, _, _, _, _, _⟩) rfl (fun K hK => ?_) AllReadyH.nil))
      ·have g0 := R6.out.cell HPP.out
       go_simp
       clear g0
       refine hK.out _ _ trivial (fun hS => ?_)
       clear hK K
       try simp only [Act.put, Z2, Z3, Z4]
       refine wpAnyH_ready (rs := [4]) (by kernel_rfl) (by simp) (AllReadyH.cons (o := ⟨some 35, _, _, _, _, _⟩) rfl (fun K hK => ?_) AllReadyH.nil)
       refine step_bsliceK (K := KSig) rfl (.tmp 34) rfl y rfl YL.out Tryd.underlying50 sizeSigK zeroSig nSig ?_
       have R8 := Lib.hid (R6.out.alloc (.cells (KSig.cs y).toArray 107))
       have YO9 := Lib.hid (show TSg.K.ok (X7.alloc (.cells (KSig.cs y).toArray 107)) y ∧ TSg.tag (X7.alloc (.cells (KSig.cs y).toArray 107)) y from ⟨KSig.below YO.out.1 ((Below.refl _ _).alloc (Nat.le_refl _) (.cells (KSig.cs y).toArray 107)), TSg.below YO.out.2 ((Below.refl _ _).alloc (Nat.le_refl _) (.cells (KSig.cs y).toArray 107))⟩)
       refine hK.out _ _ trivial (fun hS => ?_)
       clear hK K
       try simp only [Act.put, Z2, Z3, Z4]
       refine wpAnyH_ready (rs := [5]) (by kernel_rfl) (by simp) (AllReadyH.cons (o := ⟨some 36, _, _, _, _, _⟩) rfl (fun K hK => ?_) AllReadyH.nil)
       obtain ⟨i0, hi, hz0, hz1, hz2⟩ := info_parts infoSig
       refine step_append_K (K := KSig) (o := ⟨some 36, _, _, _, _, _⟩) rfl _ _ 50 rfl (bl + 1) 107 i0 _ 36 Tryd.underlying50 hi hz0 hz1 hz2 (by decide) (by decide) v xs y rfl R8.out.own HXL.out YL.out rfl R8.out.lt ?_
       intro v3 X9 ho3 hg3
       obtain ⟨g13, cap13, rfl⟩ := ownsRow_succ ho3
       have M10 := Lib.hid (R8.out.app YO9.out ho3 hg3 (by decide))
       have RF := Lib.hid (M10.out.store (by decide) HPP.out)
       clear ho3 hg3
       refine hK.out _ _ trivial (fun hS => ?_)
       clear hK K
       try simp only [Act.put, Z2, Z3, Z4]
       refine wpHv (i := 6) (oi := ⟨some 37, _, _, _, _, _⟩) (v := ?_) rfl ?_ hS ?_; rotate_left; (focus (intro w9 hSw; go_simp; try with_reducible rfl)); simp only [Act.put, Z2, Z3, Z4]
       refine wpAnyH_ready (rs := [7]) (by kernel_rfl) (by simp) (AllReadyH.cons (o := ⟨none, _, _, _, _, _⟩) rfl (fun K hK => ?_) AllReadyH.nil)
       have g0 := M10.out.cell HPP.out
       have gf := M10.out.fz 36
       go_simp
       clear g0 gf
       refine hK.out _ _ trivial (fun hS => ?_)
       clear hK K
       try simp only [Act.put]
       refine wpAnyH_done (by kernel_rfl) ?_ _
       clear hS
       generalize hv4 : (Value.slice (some ⟨g13, 0, none⟩) (xs.length + 1) cap13) = v4 at *
       clear hv4
       go_wp2
       go_roundw
       case rel => exact ⟨k + 1, _, v4, xs ++ [y], by have := HLT.out; omega, by go_num, by rw [List.length_append, HXK.out]; rfl, RF.out, by rw [HST.out, List.map_append, ← HCV.out]; rfl⟩
       case measure => have := HLT.out; simp [intOf]; omega
      ·refine step_bsliceK (K := KSig) rfl (.tmp 34) rfl y rfl YL.out Tryd.underlying50 sizeSigK zeroSig nSig ?_
       have R11 := Lib.hid (R6.out.alloc (.cells (KSig.cs y).toArray 107))
       have YO12 := Lib.hid (show TSg.K.ok (X7.alloc (.cells (KSig.cs y).toArray 107)) y ∧ TSg.tag (X7.alloc (.cells (KSig.cs y).toArray 107)) y from ⟨KSig.below YO.out.1 ((Below.refl _ _).alloc (Nat.le_refl _) (.cells (KSig.cs y).toArray 107)), TSg.below YO.out.2 ((Below.refl _ _).alloc (Nat.le_refl _) (.cells (KSig.cs y).toArray 107))⟩)
       refine hK.out _ _ trivial (fun hS => ?_)
       clear hK K
       try simp only [Act.put, Z2, Z3, Z4]
       refine wpAnyH_ready (rs := [1]) (by kernel_rfl) (by simp) (AllReadyH.cons (o := ⟨some 32, _, _, _, _, _⟩) rfl (fun K hK => ?_) AllReadyH.nil)
       have g0 := R11.out.cell HPP.out
       go_simp
       clear g0
       refine hK.out _ _ trivial (fun hS => ?_)
       clear hK K
       try simp only [Act.put, Z2, Z3, Z4]
       refine wpAnyH_ready (rs := [5]) (by kernel_rfl) (by simp) (AllReadyH.cons (o := ⟨some 36, _, _, _, _, _⟩) rfl (fun K hK => ?_) AllReadyH.nil)
       obtain ⟨i0, hi, hz0, hz1, hz2⟩ := info_parts infoSig
       refine step_append_K (K := KSig) (o := ⟨some 36, _, _, _, _, _⟩) rfl _ _ 50 rfl (bl + 1) 107 i0 _ 36 Tryd.underlying50 hi hz0 hz1 hz2 (by decide) (by decide) v xs y rfl R11.out.own HXL.out YL.out rfl R11.out.lt ?_
       intro v3 X9 ho3 hg3
       obtain ⟨g13, cap13, rfl⟩ := ownsRow_succ ho3
       have M13 := Lib.hid (R11.out.app YO12.out ho3 hg3 (by decide))
       have RF := Lib.hid (M13.out.store (by decide) HPP.out)
       clear ho3 hg3
       refine hK.out _ _ trivial (fun hS => ?_)
       clear hK K
       try simp only [Act.put, Z2, Z3, Z4]
       refine wpHv (i := 6) (oi := ⟨some 37, _, _, _, _, _⟩) (v := ?_) rfl ?_ hS ?_; rotate_left; (focus (intro w9 hSw; go_simp; try with_reducible rfl)); simp only [Act.put, Z2, Z3, Z4]
       refine wpAnyH_ready (rs := [7]) (by kernel_rfl) (by simp) (AllReadyH.cons (o := ⟨none, _, _, _, _, _⟩) rfl (fun K hK => ?_) AllReadyH.nil)
       have g0 := M13.out.cell HPP.out
       have gf := M13.out.fz 36
       go_simp
       clear g0 gf
       refine hK.out _ _ trivial (fun hS => ?_)
       clear hK K
       try simp only [Act.put]
       refine wpAnyH_done (by kernel_rfl) ?_ _
       clear hS
       generalize hv4 : (Value.slice (some ⟨g13, 0, none⟩) (xs.length + 1) cap13) = v4 at *
       clear hv4
       go_wp2
       go_roundw
       case rel => exact ⟨k + 1, _, v4, xs ++ [y], by have := HLT.out; omega, by go_num, by rw [List.length_append, HXK.out]; rfl, RF.out, by rw [HST.out, List.map_append, ← HCV.out]; rfl⟩
       case measure => have := HLT.out; simp [intOf]; omega
    ·have hkn : k = nn := by omega
     have t2 : ¬ (k : Int) < (nn : Int) := by omega
     have HM := Lib.hid (show mrep mblk nn s0 [] = (xs.map (fun x : Sg => x), s) from by rw [hmr, hkn, Nat.sub_self]; rfl)
     have HXN := Lib.hid (show xs.length = nn by omega)
     clear hrq hxk hmr hkn hlt hk
     obtain ⟨A9, c9, hv9⟩ : ∃ A9 c9, v = .slice A9 xs.length c9 := by
      rcases RW.out.own.2 with ⟨h1, h2⟩ | ⟨g, cp, cur, h1, _⟩
      ·exact ⟨none, 0, by rw [h1, h2]⟩
      ·exact ⟨_, cp, h1⟩
     subst hv9
     have RROW := Lib.hid (show KSig.row wr A9 c9 xs from Kind.row_own (K := KSig) RW.out.own (fun x hx => (RW.out.ok x hx).1))
     have RTAG := Lib.hid (show Tag 107 wr A9 from Tag.own RW.out.own)
     obtain ⟨y, hy⟩ : ∃ y : EnA, y = ⟨⟨no, n, r, len, ds, xs⟩, A9, c9⟩ := ⟨_, rfl⟩
     have BLK := Lib.hid (show KEn.blk 52 wr bl y from by rw [hy]; have h := RW.out.blk; rw [← HPRE.out] at h; exact h)
     have hmy := may_iff.1 HMY.out
     have hrg := HRG.out
     have OKF := Lib.hid (fun (X : World) (hX : KSig.row X A9 c9 xs) => show EnA.Ok X y from by rw [hy]; exact ⟨wf_smallM (by (try dsimp only); omega) (by (try dsimp only); omega), wf_smallM (by (try dsimp only); omega) (by (try dsimp only); omega), wf_smallM (by (try dsimp only); omega) (by (try dsimp only); omega), wf_smallM (by (try dsimp only); omega) (by (try dsimp only); omega), HDL.out, HDB.out, hX⟩)
     have OKY := Lib.hid (OKF.out wr RROW.out)
     have LX := Lib.hid (load_en (Kind.at_blk (K := KEn) BLK.out) OKY.out)
     have SZY := Lib.hid (en_size OKY.out)
     have SQY := Lib.hid (show CR.size = (KEn.cs y).toArray.size by rw [HCR.out, List.size_toArray]; exact (EnA.len OKY.out).symm)
     have SOY := Lib.hid (en_ones y)
     have DN := Lib.hid (RW.out.done (Y := wr.setRow w.heap.size (KEn.cs y).toArray) mrd_row (by decide) (by decide) rfl)
     have RR := Lib.hid (show (wr.setRow w.heap.size (KEn.cs y).toArray).heap[w.heap.size]? = some (.cells (KEn.cs y).toArray 52) from setRow_heap _ _ _ _ _ _ RW.out.res)
     have HYE := Lib.hid (show y.e = ⟨no, n, r, len, ds, xs⟩ by rw [hy])
     have HYA := Lib.hid (show y.A = A9 by rw [hy])
     have HFI := Lib.hid (HV.out xs s (by rw [HM.out]; simp) y _ HYE.out (OKF.out _ DN.out.2.2.2.1) (by rw [HYA.out]; exact DN.out.2.2.2.2) DN.out.1 DN.out.2.1)
     clear hy hmy hrg hnn
     go_wp2_with (first | ((with_reducible refine wpList_load_at (o := ⟨some 39, .load 52 (.tmp 4), _, _, _, _⟩) ?e1 52 (.tmp 4) ?e2 ⟨bl, 0, none⟩ ?e3 _ LX.out ?_); (case e1 => rfl); (case e2 => rfl); (case e3 => rfl)) | ((with_reducible refine wpList_store_row (o := ⟨none, .store 52 (.tmp 2) (.tmp 39), _, _, _, _⟩) ?e1 52 (.tmp 2) (.tmp 39) ?e2 w.heap.size (KEn.cs y).toArray ?e3 ?e4 52 _ RW.out.res SZY.out SQY.out SOY.out ?_); (case e1 => rfl); (case e2 => rfl); (case e3 => rfl); (case e4 => rfl)) | fail)
     refine bodyPost_ret (v := KEn.v y) ?_ rfl HFI.out
     exact results_cell_row Tryd.results56 _ _ w.heap.size 52 _ (0, 0) _ rfl RR.out Tryd.underlying52 rfl SZY.out
 ·go_simp
  have S37 := Lib.hid (S0.out.old (.cells (KEn.cs enA0).toArray 52))
  have NB38 := Lib.hid ((((Below.refl Y0.heap.size Y0).alloc (Nat.le_refl _) (.cells (KEn.cs enA0).toArray 52)).block _ (Array.getElem?_eq_some_iff.1 NN0.out).1).trans NN0.out)
  have E40 := Lib.hid (show (Y0.alloc (.cells (KEn.cs enA0).toArray 52)).heap[Y0.heap.size]? = some (.cells (KEn.cs enA0).toArray 52) from heap_alloc_new Y0 _)
  have E40g := Lib.hid (show w.heap.size + 1 < Y0.heap.size from (Array.getElem?_eq_some_iff.1 NN0.out).1)
  refine hK.out _ _ NB38.out (fun hS => ?_)
  clear hK K
  try simp only [Act.put, Z2, Z3, Z4]
  generalize Y0.alloc (.cells (KEn.cs enA0).toArray 52) = Wz41 at *
  generalize Y0.heap.size = g39 at *
  refine wpAnyH_ready (rs := [6]) (by kernel_rfl) (by simp) (AllReadyH.cons (o := ⟨some 16, _, _, _, _, _⟩) rfl (fun K hK => ?_) AllReadyH.nil)
  go_simp
  refine (HC1.out _ S37.out.rd).mono ?_
  rintro e Wz44 ⟨rfl, hr, hg⟩
  have S42 := Lib.hid (S37.out.more HQ.out hr hg)
  have NB43 := Lib.hid ((hg.block _ (Array.getElem?_eq_some_iff.1 NB38.out).1 (fun e => by have := Option.some.inj e; have := HQ.out; omega)).trans NB38.out)
  have E45 := Lib.hid ((hg.block _ (Array.getElem?_eq_some_iff.1 E40.out).1 (fun e => by have := Option.some.inj e; have := HQ.out; have := E40g.out; omega)).trans E40.out)
  have E45g := E40g
  clear hr hg
  refine hK.out _ _ NB43.out (fun hS => ?_)
  clear hK K
  try simp only [Act.put, Z2, Z3, Z4]
  refine wpAnyH_ready (rs := [10]) (by kernel_rfl) (by simp) (AllReadyH.cons (o := ⟨some 20, _, _, _, _, _⟩) rfl (fun K hK => ?_) AllReadyH.nil)
  go_simp
  refine (HC2.out _ S42.out.rd).mono ?_
  rintro e Wz48 ⟨rfl, hr, hg⟩
  have S46 := Lib.hid (S42.out.more HQ.out hr hg)
  have NB47 := Lib.hid ((hg.block _ (Array.getElem?_eq_some_iff.1 NB43.out).1 (fun e => by have := Option.some.inj e; have := HQ.out; omega)).trans NB43.out)
  have E49 := Lib.hid ((hg.block _ (Array.getElem?_eq_some_iff.1 E45.out).1 (fun e => by have := Option.some.inj e; have := HQ.out; have := E45g.out; omega)).trans E45.out)
  have E49g := E45g
  clear hr hg
  refine hK.out _ _ NB47.out (fun hS => ?_)
  clear hK K
  try simp only [Act.put, Z2, Z3, Z4]
  refine wpAnyH_ready (rs := [14]) (by kernel_rfl) (by simp) (AllReadyH.cons (o := ⟨some 24, _, _, _, _, _⟩) rfl (fun K hK => ?_) AllReadyH.nil)
  go_simp
  refine (HC3.out _ S46.out.rd).mono ?_
  rintro e Wz52 ⟨rfl, hr, hg⟩
  have S50 := Lib.hid (S46.out.more HQ.out hr hg)
  have NB51 := Lib.hid ((hg.block _ (Array.getElem?_eq_some_iff.1 NB47.out).1 (fun e => by have := Option.some.inj e; have := HQ.out; omega)).trans NB47.out)
  have E53 := Lib.hid ((hg.block _ (Array.getElem?_eq_some_iff.1 E49.out).1 (fun e => by have := Option.some.inj e; have := HQ.out; have := E49g.out; omega)).trans E49.out)
  have E53g := E49g
  clear hr hg
  refine hK.out _ _ NB51.out (fun hS => ?_)
  clear hK K
  try simp only [Act.put, Z2, Z3, Z4]
  refine wpHv (i := 15) (oi := ⟨some 25, _, _, _, _, _⟩) (v := (.agg ((enPr no n r len ds) ++ [Value.slice none 0 0]).toArray)) rfl ?_ hS ?_; (focus (intro w9 hSw; exact exec_build_at 52 #[(0, .tmp 12), (1, .tmp 16), (2, .tmp 20), (3, .tmp 24)] rfl _ (by simp only [List.map_toArray, List.map_cons, List.map_nil]; rfl) (HBD.out w9))); simp only [Act.put, Z2, Z3, Z4]
  refine wpAnyH_ready (rs := [17]) (by kernel_rfl) (by simp) (AllReadyH.cons (o := ⟨none, _, _, _, _, _⟩) rfl (fun K hK => ?_) AllReadyH.nil)
  refine step_storeM (o := ⟨none, _, _, _, _, _⟩) rfl 52 (.tmp 4) (.tmp 25) rfl g39 ((enPr no n r len ds) ++ [Value.slice none 0 0]).toArray rfl rfl 52 _ E53.out HES.out HEZ.out (enPr_one _ _ _ _ _ rfl) ?_
  have hgq := E53g.out
  have RE := Lib.hid (show (Wz52.setRow g39 ((enPr no n r len ds) ++ [Value.slice none 0 0]).toArray).heap[g39]? = some (.cells ((enPr no n r len ds) ++ [Value.slice none 0 0]).toArray 52) from setRow_heap _ _ _ _ _ _ E53.out)
  have NE := Lib.hid ((setRow_other Wz52 g39 (w.heap.size + 1) ((enPr no n r len ds) ++ [Value.slice none 0 0]).toArray (by omega)).trans NB51.out)
  have SE := Lib.hid (S50.out.own HQ.out (Y := (Wz52.setRow g39 ((enPr no n r len ds) ++ [Value.slice none 0 0]).toArray)) mrd_row (by omega))
  have hqw := HQ.out
  have R0 := Lib.hid (show RQ TSg 107 52 g39 (enPr no n r len ds) w q (KEn.cs enA0).toArray 52 s0 (.slice none 0 0) (.slice none 0 0) [] (Wz52.setRow g39 ((enPr no n r len ds) ++ [Value.slice none 0 0]).toArray) from ⟨SE.out.rd, SE.out.res, RE.out, World.ownsRow_nil _ _ _ _, (fun x hx => by cases hx), SE.out.grown, hqw, by omega⟩)
  refine hK.out _ _ NE.out (fun hS => ?_)
  clear hK K
  try simp only [Act.put]
  refine wpAnyH_done (by kernel_rfl) ?_ _
  clear hS hgq hqw
  have c3 : (Wz52.setRow g39 ((enPr no n r len ds) ++ [Value.slice none 0 0]).toArray).cell? ⟨g39, 3, none⟩ = some (.int .i64 len) := by rw [cell_of_row _ _ _ _ _ _ RE.out]; rfl
  generalize (Wz52.setRow g39 ((enPr no n r len ds) ++ [Value.slice none 0 0]).toArray) = W1 at *
  generalize g39 = bl at *
  have HB1 := Lib.hid (HBO.out W1 HRG.out.2.2.1 HRG.out.2.2.2)
  generalize hpre : enPr no n r len ds = pre at *
  have HPRE := Lib.hid hpre
  generalize nblk len = nn at *
  have HCR := Lib.hid enA0_size
  generalize (KEn.cs enA0).toArray = CR at *
  clear hpre HBD HEZ HES HC1 HC2 HC3 HF hzne hz
  go_wp2_with fail
  refine HB1.out.mono ?_
  rintro e W2 ⟨rfl, rfl⟩
  clear c3
  go_wp2
  go_loopw [29] (fun i wr => ∃ (k : Nat) (s : MS) (v : Value) (xs : List _), k ≤ nn ∧ i = .int .i64 k ∧ xs.length = k ∧ RQ TSg 107 52 bl pre w q CR 52 s v v xs wr ∧ mrep mblk nn s0 [] = mrep mblk (nn - k) s (xs.map (fun x : Sg => x))) (fun i _ => nn - (intOf i).toNat)
  case atStart => exact ⟨0, s0, _, [], Nat.zero_le _, rfl, rfl, R0.out, rfl⟩
  case round =>
   obtain ⟨k, s, v, xs, hk, rfl, hxk, hrq, hmr⟩ := hrel
   have RW := Lib.hid hrq
   have HXK := Lib.hid hxk
   have hnn := HNN.out
   by_cases hlt : k < nn
   ·have t2 : (k : Int) < (nn : Int) := by omega
    have HLT := Lib.hid hlt
    have HST := Lib.hid (hmr.trans (mrep_stepM hlt s (xs.map (fun x : Sg => x))))
    have HXL := Lib.hid (show xs.length ≤ 90000 by omega)
    have HC := Lib.hid (fun X (hX : MRd X q s) => HCALL.out s X hX)
    clear hrq hxk hmr hlt
    go_wp2_with fail
    refine wp_region_held_drew (S := fun w' => True) (by kernel_rfl) trivial (fun hS => ?_)
    have RD := Lib.hid RW.out.drew
    generalize World.drew _ = X at *
    refine wpHv (i := 0) (oi := ⟨some 31, _, _, _, _, _⟩) (v := ?_) rfl ?_ hS ?_; rotate_left; (focus (intro w9 hSw; go_simp; try with_reducible rfl)); simp only [Act.put, Z2, Z3, Z4]
    refine wpHv (i := 2) (oi := ⟨some 33, _, _, _, _, _⟩) (v := ?_) rfl ?_ hS ?_; rotate_left; (focus (intro w9 hSw; go_simp; try with_reducible rfl)); simp only [Act.put, Z2, Z3, Z4]
    refine wpAnyH_ready (rs := [1, 3]) (by kernel_rfl) (by simp) (AllReadyH.cons (o := ⟨some 32, _, _, _, _, _⟩) rfl (fun K hK => ?_) (AllReadyH.cons (o := ⟨some 34, _, _, _, _, _⟩) rfl (fun K hK => ?_) AllReadyH.nil))
    ·have g0 := RD.out.cell HPP.out
     go_simp
     clear g0
     refine hK.out _ _ trivial (fun hS => ?_)
     clear hK K
     try simp only [Act.put, Z2, Z3, Z4]
     refine wpAnyH_ready (rs := [3]) (by kernel_rfl) (by simp) (AllReadyH.cons (o := ⟨some 34, _, _, _, _, _⟩) rfl (fun K hK => ?_) AllReadyH.nil)
     go_simp
     refine (HC.out _ RD.out.rd).mono ?_
     rintro e X2 ⟨y, rfl, hcv, hok, htag, hr, hg⟩
     have R1 := Lib.hid (RD.out.call hr hg (by decide))
     have YO := Lib.hid (show TSg.K.ok _ y ∧ TSg.tag _ y from ⟨hok, htag⟩)
     have YL := Lib.hid (show (KSig.cs y).length = KSig.n from KSig.len hok)
     have HCV := Lib.hid hcv
     clear hcv hok htag hr hg
     refine hK.out _ _ trivial (fun hS => ?_)
     clear hK K
     try simp only [Act.put, Z2, Z3, Z4]
     refine wpAnyH_ready (rs := [4]) (by kernel_rfl) (by simp) (AllReadyH.cons (o := ⟨some 35, _, _, _, _, _⟩) rfl (fun K hK => ?_) AllReadyH.nil)
     refine step_bsliceK (K := KSig) rfl (.tmp 34) rfl y rfl YL.out Tryd.underlying50 sizeSigK zeroSig nSig ?_
     have R3 := Lib.hid (R1.out.alloc (.cells (KSig.cs y).toArray 107))
     have YO4 := Lib.hid (show TSg.K.ok (X2.alloc (.cells (KSig.cs y).toArray 107)) y ∧ TSg.tag (X2.alloc (.cells (KSig.cs y).toArray 107)) y from ⟨KSig.below YO.out.1 ((Below.refl _ _).alloc (Nat.le_refl _) (.cells (KSig.cs y).toArray 107)), TSg.below YO.out.2 ((Below.refl _ _).alloc (Nat.le_refl _) (.cells (KSig.cs y).toArray 107))⟩)
     refine hK.out _ _ trivial (fun hS => ?_)
     clear hK K
     try simp only [Act.put, Z2, Z3, Z4]
     refine wpAnyH_ready (rs := [5]) (by kernel_rfl) (by simp) (AllReadyH.cons (o := ⟨some 36, _, _, _, _, _⟩) rfl (fun K hK => ?_) AllReadyH.nil)
     obtain ⟨i0, hi, hz0, hz1, hz2⟩ := info_parts infoSig
     refine step_append_K (K := KSig) (o := ⟨some 36, _, _, _, _, _⟩) rfl _ _ 50 rfl (bl + 1) 107 i0 _ 36 Tryd.underlying50 hi hz0 hz1 hz2 (by decide) (by decide) v xs y rfl R3.out.own HXL.out YL.out rfl R3.out.lt ?_
     intro v3 X9 ho3 hg3
     obtain ⟨g13, cap13, rfl⟩ := ownsRow_succ ho3
     have M5 := Lib.hid (R3.out.app YO4.out ho3 hg3 (by decide))
     have RF := Lib.hid (M5.out.store (by decide) HPP.out)
     clear ho3 hg3
     refine hK.out _ _ trivial (fun hS => ?_)
     clear hK K
     try simp only [Act.put, Z2, Z3, Z4]
     refine wpHv (i := 6) (oi := ⟨some 37, _, _, _, _, _⟩) (v := ?_) rfl ?_ hS ?_; rotate_left; (focus (intro w9 hSw; go_simp; try with_reducible rfl)); simp only [Act.put, Z2, Z3, Z4]
     refine wpAnyH_ready (rs := [7]) (by kernel_rfl) (by simp) (AllReadyH.cons (o := ⟨none, _, _, _, _, _⟩) rfl (fun K hK => ?_) AllReadyH.nil)
     have g0 := M5.out.cell HPP.out
     have gf := M5.out.fz 36
     go_simp
     clear g0 gf
     refine hK.out _ _ trivial (fun hS => ?_)
     clear hK K
     try simp only [Act.put]
     refine wpAnyH_done (by kernel_rfl) ?_ _
     clear hS
     generalize hv4 : (Value.slice (some ⟨g13, 0, none⟩) (xs.length + 1) cap13) = v4 at *
     clear hv4
     go_wp2
     go_roundw
     case rel => exact ⟨k + 1, _, v4, xs ++ [y], by have := HLT.out; omega, by go_num, by rw [List.length_append, HXK.out]; rfl, RF.out, by rw [HST.out, List.map_append, ← HCV.out]; rfl⟩
     case measure => have := HLT.out; simp [intOf]; omega
    ·go_simp
     refine (HC.out _ RD.out.rd).mono ?_
     rintro e X7 ⟨y, rfl, hcv, hok, htag, hr, hg⟩
     have R6 := Lib.hid (RD.out.call hr hg (by decide))
     have YO := Lib.hid (show TSg.K.ok _ y ∧ TSg.tag _ y from ⟨hok, htag⟩)
     have YL := Lib.hid (show (KSig.cs y).length = KSig.n from KSig.len hok)
     have HCV := Lib.hid hcv
     clear hcv hok htag hr hg
     refine hK.out _ _ trivial (fun hS => ?_)
     clear hK K
     try simp only [Act.put, Z2, Z3, Z4]
     refine wpAnyH_ready (rs := [1, 4]) (by kernel_rfl) (by simp) (AllReadyH.cons (o := ⟨some 32, _, _, _, _, _⟩) rfl (fun K hK => ?_) (AllReadyH.cons (o := ⟨some 35, _, _, _, _, _⟩) rfl (fun K hK => ?_) AllReadyH.nil))
     ·have g0 := R6.out.cell HPP.out
      go_simp
      clear g0
      refine hK.out _ _ trivial (fun hS => ?_)
      clear hK K
      try simp only [Act.put, Z2, Z3, Z4]
      refine wpAnyH_ready (rs := [4]) (by kernel_rfl) (by simp) (AllReadyH.cons (o := ⟨some 35, _, _, _, _, _⟩) rfl (fun K hK => ?_) AllReadyH.nil)
      refine step_bsliceK (K := KSig) rfl (.tmp 34) rfl y rfl YL.out Tryd.underlying50 sizeSigK zeroSig nSig ?_
      have R8 := Lib.hid (R6.out.alloc (.cells (KSig.cs y).toArray 107))
      have YO9 := Lib.hid (show TSg.K.ok (X7.alloc (.cells (KSig.cs y).toArray 107)) y ∧ TSg.tag (X7.alloc (.cells (KSig.cs y).toArray 107)) y from ⟨KSig.below YO.out.1 ((Below.refl _ _).alloc (Nat.le_refl _) (.cells (KSig.cs y).toArray 107)), TSg.below YO.out.2 ((Below.refl _ _).alloc (Nat.le_refl _) (.cells (KSig.cs y).toArray 107))⟩)
      refine hK.out _ _ trivial (fun hS => ?_)
      clear hK K
      try simp only [Act.put, Z2, Z3, Z4]
      refine wpAnyH_ready (rs := [5]) (by kernel_rfl) (by simp) (AllReadyH.cons (o := ⟨some 36, _, _, _, _, _⟩) rfl (fun K hK => ?_) AllReadyH.nil)
      obtain ⟨i0, hi, hz0, hz1, hz2⟩ := info_parts infoSig
      refine step_append_K (K := KSig) (o := ⟨some 36, _, _, _, _, _⟩) rfl _ _ 50 rfl (bl + 1) 107 i0 _ 36 Tryd.underlying50 hi hz0 hz1 hz2 (by decide) (by decide) v xs y rfl R8.out.own HXL.out YL.out rfl R8.out.lt ?_
      intro v3 X9 ho3 hg3
      obtain ⟨g13, cap13, rfl⟩ := ownsRow_succ ho3
      have M10 := Lib.hid (R8.out.app YO9.out ho3 hg3 (by decide))
      have RF := Lib.hid (M10.out.store (by decide) HPP.out)
      clear ho3 hg3
      refine hK.out _ _ trivial (fun hS => ?_)
      clear hK K
      try simp only [Act.put, Z2, Z3, Z4]
      refine wpHv (i := 6) (oi := ⟨some 37, _, _, _, _, _⟩) (v := ?_) rfl ?_ hS ?_; rotate_left; (focus (intro w9 hSw; go_simp; try with_reducible rfl)); simp only [Act.put, Z2, Z3, Z4]
      refine wpAnyH_ready (rs := [7]) (by kernel_rfl) (by simp) (AllReadyH.cons (o := ⟨none, _, _, _, _, _⟩) rfl (fun K hK => ?_) AllReadyH.nil)
      have g0 := M10.out.cell HPP.out
      have gf := M10.out.fz 36
      go_simp
      clear g0 gf
      refine hK.out _ _ trivial (fun hS => ?_)
      clear hK K
      try simp only [Act.put]
      refine wpAnyH_done (by kernel_rfl) ?_ _
      clear hS
      generalize hv4 : (Value.slice (some ⟨g13, 0, none⟩) (xs.length + 1) cap13) = v4 at *
      clear hv4
      go_wp2
      go_roundw
      case rel => exact ⟨k + 1, _, v4, xs ++ [y], by have := HLT.out; omega, by go_num, by rw [List.length_append, HXK.out]; rfl, RF.out, by rw [HST.out, List.map_append, ← HCV.out]; rfl⟩
      case measure => have := HLT.out; simp [intOf]; omega
     ·refine step_bsliceK (K := KSig) rfl (.tmp 34) rfl y rfl YL.out Tryd.underlying50 sizeSigK zeroSig nSig ?_
      have R11 := Lib.hid (R6.out.alloc (.cells (KSig.cs y).toArray 107))
      have YO12 := Lib.hid (show TSg.K.ok (X7.alloc (.cells (KSig.cs y).toArray 107)) y ∧ TSg.tag (X7.alloc (.cells (KSig.cs y).toArray 107)) y from ⟨KSig.below YO.out.1 ((Below.refl _ _).alloc (Nat.le_refl _) (.cells (KSig.cs y).toArray 107)), TSg.below YO.out.2 ((Below.refl _ _).alloc (Nat.le_refl _) (.cells (KSig.cs y).toArray 107))⟩)
      refine hK.out _ _ trivial (fun hS => ?_)
      clear hK K
      try simp only [Act.put, Z2, Z3, Z4]
      refine wpAnyH_ready (rs := [1]) (by kernel_rfl) (by simp) (AllReadyH.cons (o := ⟨some 32, _, _, _, _, _⟩) rfl (fun K hK => ?_) AllReadyH.nil)
      have g0 := R11.out.cell HPP.out
      go_simp
      clear g0
      refine hK.out _ _ trivial (fun hS => ?_)
      clear hK K
      try simp only [Act.put, Z2, Z3, Z4]
      refine wpAnyH_ready (rs := [5]) (by kernel_rfl) (by simp) (AllReadyH.cons (o := ⟨some 36, _, _, _, _, _⟩) rfl (fun K hK => ?_) AllReadyH.nil)
      obtain ⟨i0, hi, hz0, hz1, hz2⟩ := info_parts infoSig
      refine step_append_K (K := KSig) (o := ⟨some 36, _, _, _, _, _⟩) rfl _ _ 50 rfl (bl + 1) 107 i0 _ 36 Tryd.underlying50 hi hz0 hz1 hz2 (by decide) (by decide) v xs y rfl R11.out.own HXL.out YL.out rfl R11.out.lt ?_
      intro v3 X9 ho3 hg3
      obtain ⟨g13, cap13, rfl⟩ := ownsRow_succ ho3
      have M13 := Lib.hid (R11.out.app YO12.out ho3 hg3 (by decide))
      have RF := Lib.hid (M13.out.store (by decide) HPP.out)
      clear ho3 hg3
      refine hK.out _ _ trivial (fun hS => ?_)
      clear hK K
      try simp only [Act.put, Z2, Z3, Z4]
      refine wpHv (i := 6) (oi := ⟨some 37, _, _, _, _, _⟩) (v := ?_) rfl ?_ hS ?_; rotate_left; (focus (intro w9 hSw; go_simp; try with_reducible rfl)); simp only [Act.put, Z2, Z3, Z4]
      refine wpAnyH_ready (rs := [7]) (by kernel_rfl) (by simp) (AllReadyH.cons (o := ⟨none, _, _, _, _, _⟩) rfl (fun K hK => ?_) AllReadyH.nil)
      have g0 := M13.out.cell HPP.out
      have gf := M13.out.fz 36
      go_simp
      clear g0 gf
      refine hK.out _ _ trivial (fun hS => ?_)
      clear hK K
      try simp only [Act.put]
      refine wpAnyH_done (by kernel_rfl) ?_ _
      clear hS
      generalize hv4 : (Value.slice (some ⟨g13, 0, none⟩) (xs.length + 1) cap13) = v4 at *
      clear hv4
      go_wp2
      go_roundw
      case rel => exact ⟨k + 1, _, v4, xs ++ [y], by have := HLT.out; omega, by go_num, by rw [List.length_append, HXK.out]; rfl, RF.out, by rw [HST.out, List.map_append, ← HCV.out]; rfl⟩
      case measure => have := HLT.out; simp [intOf]; omega
   ·have hkn : k = nn := by omega
    have t2 : ¬ (k : Int) < (nn : Int) := by omega
    have HM := Lib.hid (show mrep mblk nn s0 [] = (xs.map (fun x : Sg => x), s) from by rw [hmr, hkn, Nat.sub_self]; rfl)
    have HXN := Lib.hid (show xs.length = nn by omega)
    clear hrq hxk hmr hkn hlt hk
    obtain ⟨A9, c9, hv9⟩ : ∃ A9 c9, v = .slice A9 xs.length c9 := by
     rcases RW.out.own.2 with ⟨h1, h2⟩ | ⟨g, cp, cur, h1, _⟩
     ·exact ⟨none, 0, by rw [h1, h2]⟩
     ·exact ⟨_, cp, h1⟩
    subst hv9
    have RROW := Lib.hid (show KSig.row wr A9 c9 xs from Kind.row_own (K := KSig) RW.out.own (fun x hx => (RW.out.ok x hx).1))
    have RTAG := Lib.hid (show Tag 107 wr A9 from Tag.own RW.out.own)
    obtain ⟨y, hy⟩ : ∃ y : EnA, y = ⟨⟨no, n, r, len, ds, xs⟩, A9, c9⟩ := ⟨_, rfl⟩
    have BLK := Lib.hid (show KEn.blk 52 wr bl y from by rw [hy]; have h := RW.out.blk; rw [← HPRE.out] at h; exact h)
    have hmy := may_iff.1 HMY.out
    have hrg := HRG.out
    have OKF := Lib.hid (fun (X : World) (hX : KSig.row X A9 c9 xs) => show EnA.Ok X y from by rw [hy]; exact ⟨wf_smallM (by (try dsimp only); omega) (by (try dsimp only); omega), wf_smallM (by (try dsimp only); omega) (by (try dsimp only); omega), wf_smallM (by (try dsimp only); omega) (by (try dsimp only); omega), wf_smallM (by (try dsimp only); omega) (by (try dsimp only); omega), HDL.out, HDB.out, hX⟩)
    have OKY := Lib.hid (OKF.out wr RROW.out)
    have LX := Lib.hid (load_en (Kind.at_blk (K := KEn) BLK.out) OKY.out)
    have SZY := Lib.hid (en_size OKY.out)
    have SQY := Lib.hid (show CR.size = (KEn.cs y).toArray.size by rw [HCR.out, List.size_toArray]; exact (EnA.len OKY.out).symm)
    have SOY := Lib.hid (en_ones y)
    have DN := Lib.hid (RW.out.done (Y := wr.setRow w.heap.size (KEn.cs y).toArray) mrd_row (by decide) (by decide) rfl)
    have RR := Lib.hid (show (wr.setRow w.heap.size (KEn.cs y).toArray).heap[w.heap.size]? = some (.cells (KEn.cs y).toArray 52) from setRow_heap _ _ _ _ _ _ RW.out.res)
    have HYE := Lib.hid (show y.e = ⟨no, n, r, len, ds, xs⟩ by rw [hy])
    have HYA := Lib.hid (show y.A = A9 by rw [hy])
    have HFI := Lib.hid (HV.out xs s (by rw [HM.out]; simp) y _ HYE.out (OKF.out _ DN.out.2.2.2.1) (by rw [HYA.out]; exact DN.out.2.2.2.2) DN.out.1 DN.out.2.1)
    clear hy hmy hrg hnn
    go_wp2_with (first | ((with_reducible refine wpList_load_at (o := ⟨some 39, .load 52 (.tmp 4), _, _, _, _⟩) ?e1 52 (.tmp 4) ?e2 ⟨bl, 0, none⟩ ?e3 _ LX.out ?_); (case e1 => rfl); (case e2 => rfl); (case e3 => rfl)) | ((with_reducible refine wpList_store_row (o := ⟨none, .store 52 (.tmp 2) (.tmp 39), _, _, _, _⟩) ?e1 52 (.tmp 2) (.tmp 39) ?e2 w.heap.size (KEn.cs y).toArray ?e3 ?e4 52 _ RW.out.res SZY.out SQY.out SOY.out ?_); (case e1 => rfl); (case e2 => rfl); (case e3 => rfl); (case e4 => rfl)) | fail)
    refine bodyPost_ret (v := KEn.v y) ?_ rfl HFI.out
    exact results_cell_row Tryd.results56 _ _ w.heap.size 52 _ (0, 0) _ rfl RR.out Tryd.underlying52 rfl SZY.out
end
end Go.Proofs.YtkjimhlpbgeagaaDoor
