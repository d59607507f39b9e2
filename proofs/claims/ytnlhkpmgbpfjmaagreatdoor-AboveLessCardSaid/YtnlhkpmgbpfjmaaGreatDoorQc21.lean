import Derived.Test.YtnlhkpmgbpfjmaaGreatDoorQc0
import Derived.Test.YtnlhkpmgbpfjmaaGreatDoorQc20
import Derived.Test.YtnlhkpmgbpfjmaaGreatDoorQc17
import Derived.Test.YtnlhkpmgbpfjmaaGreatDoorQc7
import Derived.Test.YtnlhkpmgbpfjmaaGreatDoorQc6
import Derived.Test.YtnlhkpmgbpfjmaaGreatDoorQc1
import Derived.Maps.OwnSet
import Derived.Maps.Views
import Derived.DeepKeys4
/-
  What the functions that a law of this layer reaches answer, part 21. Nothing that was there is written.
-/
namespace Go.Proofs.YtnlhkpmgbpfjmaaGreatDoor
set_option linter.unusedVariables false
set_option linter.unusedSimpArgs false
section
open Go.RowKit WM
def aliv (P : Rc) : Rc := ⟨P.z, 0, 0, P.fs⟩
def adead (P : Rc) : Rc := ⟨P.z, P.n, P.r, []⟩
def addX (Y : List Rc) (P : Rc) : Int × List Rc := if P.n = 0 ∧ P.r = 0 then (0, Y) else bjE Y [adead P]
def addY (x : Int × List Rc) (P : Rc) : Int × List Rc := if x.1 = 0 ∧ P.fs ≠ [] then bjE x.2 [aliv P] else x
def addOk (Y : List Rc) (P : Rc) : Prop := bmay Y = true ∧ may P.n P.r = true ∧ ¬ (P.n = 0 ∧ P.r = 0 ∧ P.fs = []) ∧ (P.fs = [] ∨ (aliv P).may = true)
open Classical in
noncomputable def addE (Y : List Rc) (P : Rc) : Int × List Rc :=
 if addOk Y P then (if (addY (addX Y P) P).1 = 0 then addY (addX Y P) P else ((addY (addX Y P) P).1, [])) else (1, [])
theorem may_zeroA : may 0 0 = true := by decide
theorem may_okFrom {R : Rc} (h : R.may = true) : okFrom R.n R.r 0 R.fs = true := by
 have h' := h
 unfold Rc.may rmay at h'
 simp only [Bool.and_eq_true] at h'
 exact h'.2
noncomputable def excO (o : Option Rc) (c : Cel) (k : Nat) : Bool := match o with
 | none => stLess 0 0 c.n c.r
 | some x => stLess x.n x.r c.n c.r && (match x.at k with
  | none => true
  | some e => if e.n = c.n ∧ e.r = c.r then lessL (SH.sum (nums e.s)) (SH.sum (nums c.s)) else stLess e.n e.r c.n c.r)
def odead (o : Option Rc) : Int × Int := match o with
 | none => (0, 0)
 | some x => (x.n, x.r)
theorem ldead_mof (base : List Int) (Y : List Rc) (z : List Int) : ldead (mof SH.sum base Y) z = odead (bat Y z) := by
 unfold ldead
 rw [show (mof SH.sum base Y).ls = Y.map (mofL SH.sum) from rfl, lfind_mof]
 cases bat Y z <;> rfl
theorem exc_mof (base : List Int) (Y : List Rc) (z : List Int) (c : Cel) (k : Nat) : exc c (mof SH.sum base Y) z (k : Int) = excO (bat Y z) c k := by
 unfold exc
 rw [ldead_mof, mfind_mof]
 cases bat Y z with
 | none => simp [excO, odead]
 | some x =>
  unfold excO odead Rc.at rfind
  simp only [Option.bind_some]
  cases x.fs.find? (fun f => decide (f.no = (k : Int))) with
  | none => rfl
  | some f => rfl
theorem exc_yes {x : Rc} {c : Cel} {k : Nat} (h : excO (some x) c k = true) : stLess x.n x.r c.n c.r = true ∧ ∀ e, x.at k = some e → cless e c = true := by
 unfold excO at h
 dsimp only at h
 rw [Bool.and_eq_true] at h
 refine ⟨h.1, fun e he => ?_⟩
 have h2 := h.2
 rw [he] at h2
 dsimp only at h2
 rw [cless_iff]
 unfold CL
 split at h2
 ·rename_i h1
  exact .inr ⟨h1, .inl h2⟩
 ·exact .inl (stLess_iff.1 h2)
section
variable {base : List Int} {Y : List Rc} {R : Rc}
theorem ppart_none (hR : R.may = true) (h : bat Y R.z = none) : ppart (mof SH.sum base Y) R = R := by
 have hd := may_iff.1 (may_dead hR)
 have hf : pfs R (mof SH.sum base Y) = R.fs := by
  unfold pfs
  refine List.filter_eq_self.2 fun f hf => ?_
  obtain ⟨h1, h2, h3, _⟩ := okFrom_all _ _ _ _ (may_okFrom hR) (Int.le_refl 0) f hf
  have h4 := exc_mof base Y R.z f.c f.no.toNat
  rw [Int.toNat_of_nonneg h1, h] at h4
  rw [h4]
  exact stLess_iff.2 (.inl (by have := (cmay_iff.1 h3).2.1; omega))
 have hp : pless R (mof SH.sum base Y) = stLess 0 0 R.n R.r := by unfold pless; rw [ldead_mof, h]; rfl
 unfold ppart
 rw [hf, hp]
 obtain ⟨z, n, r, fs⟩ := R
 dsimp only at hd ⊢
 by_cases h0 : n = 0
 ·have h1 : r = 0 := by omega
  subst h0 h1
  simp
 ·rw [stLess_iff.2 (.inl (by omega)), if_pos rfl, if_pos rfl]
theorem ppart_some {x : Rc} (h : bat Y R.z = some x) : pless R (mof SH.sum base Y) = stLess x.n x.r R.n R.r := by unfold pless; rw [ldead_mof, h]; rfl
end
end
section
open Go.RowKit WM
theorem rfind_in {n r : Int} : ∀ {fs : List Fld} {m : Int}, okFrom n r m fs = true → ∀ f ∈ fs, rfind fs f.no = some f.c
 | [], _, _, f, hf => by cases hf
 | g :: fs, m, h, f, hf => by
  rw [okFrom] at h
  simp only [Bool.and_eq_true, decide_eq_true_eq] at h
  rw [rfind_cons]
  rcases List.mem_cons.1 hf with rfl | hf
  ·rw [if_pos rfl]
  ·have ih := rfind_in h.2 f hf
   have hne : ¬ g.no = f.no := fun e => by
    have := rfind_low h.2 (no := g.no) (by omega)
    rw [e, ih] at this
    cases this
   rw [if_neg hne]
   exact ih
theorem apart_no {base : List Int} {J : List Rc} {R x : Rc} (hx : x.may = true) (hR : R.may = true) (hb : bat J R.z = some x) (hj : jn x R = x) : apart (mof SH.sum base J) R = none := by
 have hd : mx x.d R.d = x.d := congrArg Rc.d hj
 have h1 : pless R (mof SH.sum base J) = false := by
  rw [ppart_some hb]
  cases h : stLess x.n x.r R.n R.r with
  | false => rfl
  | true =>
   have h2 : mx x.d R.d = R.d := by unfold mx; rw [if_pos (show stLess x.d.1 x.d.2 R.d.1 R.d.2 = true from h)]
   rw [hd] at h2
   have h3 : x.n = R.n := congrArg Prod.fst h2
   have h4 : x.r = R.r := congrArg Prod.snd h2
   have := stLess_iff.1 h
   omega
 have h2 : pfs R (mof SH.sum base J) = [] := by
  unfold pfs
  refine List.filter_eq_nil_iff.2 fun f hf he => ?_
  obtain ⟨a1, a2, a3, a4⟩ := okFrom_all _ _ _ _ (may_okFrom hR) (Int.le_refl 0) f hf
  have hk : f.no.toNat < 8 := by omega
  have hno : ((f.no.toNat : Nat) : Int) = f.no := Int.toNat_of_nonneg a1
  have h4 := exc_mof base J R.z f.c f.no.toNat
  rw [hno, hb] at h4
  rw [h4] at he
  obtain ⟨e1, e2⟩ := exc_yes he
  have hRa : R.at f.no.toNat = some f.c := by unfold Rc.at; rw [hno]; exact rfind_in (may_okFrom hR) f hf
  have hja := at_jn x R hk
  rw [hj, hd, hRa] at hja
  cases hxa : x.at f.no.toNat with
  | none =>
   rw [hxa] at hja
   have : ofilt x.d (omerge none (some f.c)) = some f.c := ofilt_some e1
   rw [this] at hja
   cases hja
  | some e =>
   rw [hxa] at hja
   have h5 := e2 e hxa
   have : ofilt x.d (omerge (some e) (some f.c)) = some f.c := by
    show ofilt x.d (some (cjoin e f.c)) = _
    rw [cjoin_yes h5]
    exact ofilt_some e1
   rw [this] at hja
   rw [Option.some.inj hja] at h5
   rw [cless_self] at h5
   cases h5
 unfold apart
 rw [if_neg (fun h => h.elim (fun h => by rw [h1] at h; cases h) (fun h => h h2))]
theorem parts_noA {base : List Int} {X J : List Rc} (hX : bmay X = true) (hJ : bmay J = true) (h : ∀ R ∈ X, ∃ x, bat J R.z = some x ∧ jn x R = x) : X.filterMap (apart (mof SH.sum base J)) = [] := by
 refine List.filterMap_eq_nil_iff.2 fun R hR => ?_
 obtain ⟨x, h1, h2⟩ := h R hR
 exact apart_no (bat_may (bmay_iff.1 hJ).2.1 h1).1 ((bmay_iff.1 hX).2.1 R hR) h1 h2
theorem join_eats {X J : List Rc} (hX : bmay X = true) (hJ : bmay J = true) (h : bjoin J X = J) : ∀ R ∈ X, ∃ x, bat J R.z = some x ∧ jn x R = x := fun R hR => by
 obtain ⟨_, m1, r1⟩ := bmay_iff.1 hX
 obtain ⟨_, m2, r2⟩ := bmay_iff.1 hJ
 have h1 := bat_bjoin r2 r1 R.z
 rw [h, bat_mem r1 hR] at h1
 cases hb : bat J R.z with
 | none => rw [hb] at h1; cases h1
 | some x =>
  rw [hb] at h1
  exact ⟨x, rfl, (Option.some.inj h1).symm⟩
theorem parts_join {base : List Int} {X Y : List Rc} (hX : bmay X = true) (hY : bmay Y = true) (hl : (bjoin X Y).length ≤ 10) : X.filterMap (apart (mof SH.sum base (bjoin X Y))) = [] ∧ Y.filterMap (apart (mof SH.sum base (bjoin X Y))) = [] := by
 have hj := bjoin_bmay hX hY hl
 obtain ⟨_, m1, r1⟩ := bmay_iff.1 hX
 obtain ⟨_, m2, r2⟩ := bmay_iff.1 hY
 obtain ⟨_, m3, r3⟩ := bmay_iff.1 hj
 have h1 : bjoin (bjoin X Y) X = bjoin X Y := by
  rw [bjoin_comm m3 m1 r3 r1, ← bjoin_assoc m1 m1 m2 r1 r1 r2, bjoin_self m1 r1]
 have h2 : bjoin (bjoin X Y) Y = bjoin X Y := by
  rw [bjoin_assoc m1 m2 m2 r1 r2 r2, bjoin_self m2 r2]
 exact ⟨parts_noA hX hj (join_eats hX hj h1), parts_noA hY hj (join_eats hY hj h2)⟩
theorem parts_own {base : List Int} {Y : List Rc} (hY : bmay Y = true) : Y.filterMap (apart (mof SH.sum base Y)) = [] :=
 parts_noA hY hY (join_eats hY hY (bjoin_self (bmay_iff.1 hY).2.1 (bmay_iff.1 hY).2.2))
theorem apart_all {base : List Int} {R : Rc} (hR : R.may = true) : apart (mof SH.sum base []) R = some R := by
 have hp := ppart_none (base := base) (Y := []) hR rfl
 have h0 := congrArg Rc.fs hp
 have h1 : pfs R (mof SH.sum base []) = R.fs := h0
 unfold apart
 rw [hp, if_pos]
 by_cases hf : R.fs = []
 ·left
  unfold pless
  rw [ldead_mof]
  show stLess 0 0 R.n R.r = true
  have hm := may_iff.1 (may_dead hR)
  have hn : ¬ (R.n = 0 ∧ R.r = 0) := fun h => by
   unfold Rc.may rmay at hR
   rw [h.1, h.2, hf] at hR
   simp at hR
  exact stLess_iff.2 (.inl (by omega))
 ·exact .inr (by rw [h1]; exact hf)
theorem parts_all {base : List Int} : ∀ {X : List Rc}, AllMay X → X.filterMap (apart (mof SH.sum base [])) = X
 | [], _ => rfl
 | R :: X, h => by
  rw [List.filterMap_cons_some (apart_all (h R List.mem_cons_self)), parts_all fun x hx => h x (List.mem_cons_of_mem _ hx)]
end
section
section
open Go.RowKit WM
set_option maxRecDepth 100000
set_option maxHeartbeats 2000000 in
theorem one_any (s : ByteArray) (w : World) (hlaid : Laid w) (hs : s.size ≤ 1000000) : Calls Tryz.prog 108 #[.string s] w fun e w' => e = .returned (KSig.v (sgOne (nums s))) ∧ Below w.heap.size w w' := by
 have hz := zeroSig
 have hok := sgOne_ok (nums s)
 have HC1 := Lib.hid (fun w => rlsum_any s w hs)
 have HC2 := Lib.hid (fun (X : World) (hX : Below w.heap.size w X) => of_any s X (hlaid.below hX (Nat.le_refl _)) (by omega))
 unfold DSumPost at HC2
 have HBD := Lib.hid (fun w9 => build_sig (x := sgOne (nums s)) hok.2.2.1 w9)
 have SZ := Lib.hid (sig_size hok)
 have SQ := Lib.hid (sig_same sgz_ok hok)
 have SO := Lib.hid (sig_ones (sgOne (nums s)))
 have hrA : ∀ X, Below (w.heap.size + 1) (w.alloc (.cells (KSig.cs sgz).toArray 122)) X → X.heap[w.heap.size]? = some (.cells (KSig.cs sgz).toArray 122) := fun X hX => (hX.block _ (by omega)).trans (heap_alloc_new w _)
 have hbA : Below w.heap.size w (w.alloc (.cells (KSig.cs sgz).toArray 122)) := (Below.refl _ _).alloc (Nat.le_refl _) _
 have hszA : (w.alloc (.cells (KSig.cs sgz).toArray 122)).heap.size = w.heap.size + 1 := World.size_alloc _ _
 simp only [show (sgOne (nums s)).wk = rlS (nums s) from rfl, show (sgOne (nums s)).ds = SH.sum (nums s) from rfl] at HBD
 rw [show KSig.v ⟨0, List.replicate 32 0⟩ = .agg (KSig.cs sgz).toArray from rfl] at hz
 rw [show KSig.v (sgOne (nums s)) = .agg (KSig.cs (sgOne (nums s))).toArray from rfl] at HBD ⊢
 have hzne : ¬ (KSig.cs sgz).toArray = #[] := by simp [KSig, Sg.cs]
 have HRA := Lib.hid hrA
 have HBA := Lib.hid hbA
 have HSZ := Lib.hid hszA
 generalize (KSig.cs sgz).toArray = Z at *
 generalize (KSig.cs (sgOne (nums s))).toArray = V at *
 generalize rlS (nums s) = R at *
 generalize bvals (SH.sum (nums s)) = D at *
 clear hrA hbA hszA hok hlaid
 go_enter Tryz.func108, Tryz.ntmps108
 go_wp2_with fail
 refine (HC1.out _).mono ?_
 rintro e w1 ⟨rfl, hb1⟩
 rw [HSZ.out] at hb1
 have HB1 := Lib.hid hb1
 clear hb1
 go_wp2_with fail
 refine (HC2.out _ (HBA.out.trans (HB1.out.mono (by omega)))).mono ?_
 rintro e w2 ⟨rfl, hb2⟩
 have HB2 := Lib.hid (HB1.out.trans (hb2.mono (by have := HB1.out.size; rw [HSZ.out] at this; exact this)))
 have F1 := Lib.hid (HRA.out _ HB2.out)
 have F2 := Lib.hid (show (w2.setRow w.heap.size V).heap[w.heap.size]? = some (.cells V 122) from setRow_heap _ _ _ _ _ _ F1.out)
 have F3 := Lib.hid (below_setRow (HBA.out.trans (HB2.out.mono (by omega))) (Nat.le_refl _) V)
 clear hb2
 go_wp2_with (first | ((with_reducible refine wpList_build_at (o := ⟨some 7, .build 122 #[(0, .tmp 4), (1, .tmp 6)], _, _, _, _⟩) ?e1 122 #[(0, .tmp 4), (1, .tmp 6)] ?e2 #[(0, .int .u32 R), (1, .agg D)] ?e3 _ (HBD.out w2) ?_); (case e1 => rfl); (case e2 => rfl); (case e3 => (simp only [List.map_toArray, List.map_cons, List.map_nil]; rfl))) | ((with_reducible refine wpList_store_row (o := ⟨none, .store 122 (.tmp 2) (.tmp 7), _, _, _, _⟩) ?e1 122 (.tmp 2) (.tmp 7) ?e2 w.heap.size V ?e3 ?e4 122 _ F1.out SZ.out SQ.out SO.out ?_); (case e1 => rfl); (case e2 => rfl); (case e3 => rfl); (case e4 => rfl)))
 exact bodyPost_ret (v := .agg V) (by exact results_cell_row Tryz.results108 _ _ w.heap.size 122 V (0, 0) _ rfl F2.out Tryz.underlying122 rfl SZ.out) (by rfl) ⟨rfl, F3.out⟩
end
section
open Go.RowKit WM
set_option maxRecDepth 100000
theorem cut_upto (s : ByteArray) (m : Nat) (hm : m ≤ s.size) (I : Int) (eI : I = m) (w : World) : (Instr.slice 9 (.string s) none (some (.int .i64 I)) none).run Tryz.prog w = .ok (.string (s.extract 0 m)) w := by
 subst eI
 have h := run_slice_string_h (P := Tryz.prog) (w := w) (t := 9) (s := s) Tryz.underlying9 .i64 (m : Int) (by omega) (by omega)
 simpa using h
theorem cut_from (s : ByteArray) (m : Nat) (hm : m ≤ s.size) (I : Int) (eI : I = m) (w : World) : (Instr.slice 9 (.string s) (some (.int .i64 I)) none none).run Tryz.prog w = .ok (.string (s.extract m s.size)) w := by
 subst eI
 have h := run_slice_string_l (P := Tryz.prog) (w := w) (t := 9) (s := s) Tryz.underlying9 .i64 (m : Int) (by omega) (by omega)
 simpa using h
set_option maxHeartbeats 4000000 in
theorem of10_new (s : ByteArray) (w : World) (hlaid : Laid w) (hs : s.size ≤ 2000000) : Calls Tryz.prog 81 #[.string s] w (KPostN KSig 122 w (sgOf (nums s))) := by
 have HN0 := Lib.hid (kpostN_nil (K := KSig) (te := 122) (Below.refl w.heap.size w))
 obtain ⟨n, hn⟩ : ∃ n, n = s.size := ⟨_, rfl⟩
 have HNN := Lib.hid (show (nums s).length = n by rw [nums_len, hn])
 have hlen : s.size = n := hn.symm
 have HSZ := Lib.hid hlen
 clear hn
 by_cases h1 : n < 24
 ·have HV := Lib.hid (sgOf_none (zs := nums s) (by rw [HNN.out]; exact h1))
  have t1 : (n : Int) < 24 := by omega
  go_enter Tryz.func81, Tryz.ntmps81
  go_wp2
  go_ret
  rw [HV.out]
  exact HN0.out
 ·have t0 : ¬ (n : Int) < 24 := by omega
  have h24 : ¬ (nums s).length < 24 := by rw [HNN.out]; exact h1
  obtain ⟨m, hm⟩ : ∃ m, m = n / 8 := ⟨_, rfl⟩
  have HLN := Lib.hid (sgOf_len h24)
  rw [HNN.out, ← hm] at HLN
  have HAT := Lib.hid (fun k (hk : k < m) => sgOf_at h24 (k := k) (by rw [HNN.out, ← hm]; exact hk))
  have HOK := Lib.hid (sgOf_ok (nums s))
  generalize sgOf (nums s) = L at *
  have hm8 : 8 * m ≤ n ∧ n < 8 * m + 8 := by omega
  have hquo : Int.tdiv (n : Int) 8 = (m : Int) := by rw [Int.tdiv_eq_ediv_of_nonneg (by omega)]; omega
  have HB := Lib.hid (Below.refl w.heap.size w)
  have HPS := Lib.hid (fun (p : ByteArray) (hp : p.size = 8) (X : World) (hX : Below w.heap.size w X) => one_any p X (hlaid.below hX (Nat.le_refl _)) (by omega))
  obtain ⟨i0, hi, hz0, hz1, hz2⟩ := info_parts infoSig
  have hzl : (KSig.v ⟨0, List.replicate 32 0⟩).cells.size = KSig.n := by decide
  have HUP := Lib.hid cut_upto
  have HFR := Lib.hid cut_from
  clear h1 h24 hm hlaid
  go_enter Tryz.func81, Tryz.ntmps81
  go_wp2_with (at_make; refine wpList_make_own _ rfl _ _ 66 rfl w.heap.size 122 i0 _ 33 Tryz.underlying66 hi hz0 hz1 .i64 .i64 (m : Int) m rfl rfl rfl (by rw [hz2]; omega) (by simp only [maxLen]; omega) (Nat.le_refl _) ?_; intro w1 hown hgrow; have OW := Lib.hid hown; have BW := Lib.hid ((Below.refl w.heap.size w).grown hgrow (Nat.le_refl _) (fun _ h => by cases h)); clear hown hgrow)
  go_loopw [0, 3] (fun r v wr => ∃ (k q : Nat) (R : ByteArray), k ≤ m ∧ R.size = q ∧ q + 8 * k = n ∧ r = .string R ∧ nums R = (nums s).drop (8 * k) ∧ wr.ownsRow w.heap.size 122 KSig.n v k ((L.take k).flatMap KSig.cs) ∧ Below w.heap.size w wr) (fun r _ _ => match r with | .string R => R.size | _ => 0)
  case atStart => exact ⟨0, n, s, Nat.zero_le _, hlen, rfl, rfl, by simp, OW.out, BW.out⟩
  case round =>
   obtain ⟨k, q, R, hk, hq, hqn, rfl, hR, ho, hb⟩ := hrel
   have HO := Lib.hid ho
   have HBB := Lib.hid hb
   have HRR := Lib.hid hR
   have HQ := Lib.hid hq
   have HQN := Lib.hid hqn
   by_cases hlt : k < m
   ·have t1 : (8 : Int) ≤ (q : Int) := by omega
    have hup := HUP.out R 8 (by omega) 8 rfl
    have hfr := HFR.out R 8 (by omega) 8 rfl
    have HNP := Lib.hid (show nums (R.extract 0 8) = ((nums s).drop (8 * k)).take 8 by rw [nums_extract, hR, List.drop_zero])
    have HZP := Lib.hid (show (R.extract 0 8).size = 8 from extract_size _ _ _ (by omega))
    have HNF := Lib.hid (show nums (R.extract 8 R.size) = (nums s).drop (8 * (k + 1)) by
     rw [nums_extract, hR, List.drop_drop, List.take_of_length_le (by rw [List.length_drop, HNN.out]; omega)]
     rw [show 8 * (k + 1) = 8 * k + 8 by omega])
    have HZF := Lib.hid (show (R.extract 8 R.size).size = q - 8 by rw [extract_size _ _ _ (Nat.le_refl _), hq])
    have HC := Lib.hid (HPS.out (R.extract 0 8) HZP.out wr hb)
    rw [HNP.out, ← HAT.out k hlt] at HC
    have HXO := Lib.hid (HOK.out (L.getD k sg0) (by rw [List.getD_eq_getElem?_getD, List.getElem?_eq_getElem (by rw [HLN.out]; exact hlt)]; exact List.getElem_mem _))
    have HTK := Lib.hid (show L.take (k + 1) = L.take k ++ [L.getD k sg0] by
     rw [List.take_succ_eq_append_getElem (by rw [HLN.out]; exact hlt), List.getD_eq_getElem?_getD, List.getElem?_eq_getElem (by rw [HLN.out]; exact hlt)]
     rfl)
    clear HNP HZP hR
    generalize R.extract 0 8 = p at *
    generalize R.extract 8 R.size = f at *
    generalize L.getD k sg0 = x at *
    clear ho hb hqn
    go_wp2_with fail
    refine HC.out.mono ?_
    rintro e w1 ⟨rfl, hb1⟩
    have B1 := Lib.hid (HBB.out.trans (hb1.mono HBB.out.size))
    have O1 := Lib.hid ((own_below HO.out hb1).alloc (.cells (KSig.cs x).toArray 122))
    have B2 := Lib.hid (B1.out.alloc B1.out.size (.cells (KSig.cs x).toArray 122))
    have R2 := Lib.hid (Kind.row_one (K := KSig) (w := w1) (x := x) (t := 122) HXO.out)
    have VL : Hid (k + 1 ≤ 10000000) := Lib.hid (by omega)
    have VS := Lib.hid B2.out.size
    have XL := Lib.hid (show (KSig.cs x).length = KSig.n from Sg.cs_len HXO.out)
    clear hb1
    go_wp2_with (first | ((with_reducible refine wpList_bsliceK (K := KSig) (o := ⟨some 18, .buildSlice 66 1 #[(0, .tmp 17)], _, _, _, _⟩) ?e1 (.tmp 17) ?e2 x ?e3 XL.out Tryz.underlying66 sizeSigK zeroSig nSig ?_); (case e1 => rfl); (case e2 => rfl); (case e3 => rfl)) | (at_builtin; refine wpList_append_K (K := KSig) _ rfl _ _ 66 rfl w.heap.size 122 i0 _ 36 Tryz.underlying66 hi hz0 hz1 hz2 hzl (by omega) _ k (L.take k) rfl O1.out (some ⟨w1.heap.size, 0, none⟩) 1 1 [x] rfl R2.out rfl VL.out VS.out ?_; intro v3 w3 ho3 hg3; have O3 := Lib.hid ho3; have B3 := Lib.hid (B2.out.grown hg3 B2.out.size (fun g hg => own_base O1.out hg)); obtain ⟨g13, cap13, rfl⟩ := ownsRow_succ ho3; clear ho3 hg3))
    go_roundw
    case rel => exact ⟨k + 1, q - 8, f, by omega, HZF.out, by have := HQN.out; omega, rfl, HNF.out, by rw [HTK.out]; exact O3.out, B3.out⟩
    case measure => simp only [HZF.out]; have := HQ.out; omega
   ·obtain rfl : k = m := by omega
    have t1 : ¬ (8 : Int) ≤ (q : Int) := by omega
    have hT : L.take k = L := List.take_of_length_le (by rw [HLN.out]; exact Nat.le_refl _)
    rw [hT] at ho
    have hll := HLN.out
    rw [← hll] at ho
    have HO := Lib.hid ho
    clear ho hb hT hll hR
    go_wp2
    go_ret
    exact kpostN_own HO.out HOK.out HBB.out
end
section
open Go.RowKit WM
set_option maxRecDepth 20000
end
section
open Go.RowKit WM
set_option maxRecDepth 100000
end
section
open Go.RowKit WM
set_option maxRecDepth 100000
end
end
section
open Go.RowKit WM
set_option maxRecDepth 100000
def z7 : List Int := [7, 0, 0, 0, 0, 0, 0, 0, 0, 0, 0, 0, 0, 0, 0, 0]
theorem z7_len : z7.length = 16 := rfl
theorem z7_bytes : AllBytes z7 := by unfold AllBytes z7; decide
def recX : Rc := ⟨z7, 0, 0, [⟨2, ⟨1, 1, ⟨#[120]⟩⟩⟩]⟩
theorem write_X : bwrite [] z7 2 1 ⟨#[120]⟩ = (0, [recX]) := rfl
theorem bat_X : bat [recX] z7 = some recX := rfl
theorem built_z7 : Tryz.prog.built 31 [(0, .int .u8 7)] = some (bvals z7) := by kernel_rfl
theorem build_z7 (w : World) : (Instr.build 31 #[(0, .int .u8 7)]).run Tryz.prog w = .ok (.agg (bvals z7)) w := run_build w _ _ _ built_z7
end
end Go.Proofs.YtnlhkpmgbpfjmaaGreatDoor
