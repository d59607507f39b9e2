import Derived.Test.YtkjimhlpbgeagaaGreatDoorF0
import Derived.Test.YtkjimhlpbgeagaaGreatDoorF12
import Derived.Test.YtkjimhlpbgeagaaGreatDoorF5
import Derived.Test.YtkjimhlpbgeagaaGreatDoorF1
import Derived.Test.YtkjimhlpbgeagaaGreatDoorF6
import Derived.Maps.OwnSet
import Derived.Maps.Views
import Derived.DeepKeys4
import Derived.Test.YtkjimhlpbgeagaaGreatDoorF15
import Derived.Test.YtkjimhlpbgeagaaGreatDoorF14
import Derived.Test.YtkjimhlpbgeagaaGreatDoorF8
import Derived.Lib.LazyBuf
/-
  What the functions that a law of this layer reaches answer, part 16. Nothing that was there is written.
-/
namespace Go.Proofs.YtkjimhlpbgeagaaGreatDoor
set_option linter.unusedVariables false
set_option linter.unusedSimpArgs false
section
section
open Go.RowKit WM
set_option maxRecDepth 100000
set_option maxHeartbeats 2000000 in
theorem one_any (s : ByteArray) (w : World) (hlaid : Laid w) (hs : s.size ≤ 1000000) : Calls Tryz.prog 53 #[.string s] w fun e w' => e = .returned (KSig.v (sgOne (nums s))) ∧ Below w.heap.size w w' := by
 have hz := zeroSig
 have hok := sgOne_ok (nums s)
 have HC1 := Lib.hid (fun w => rlsum_any s w hs)
 have HC2 := Lib.hid (fun (X : World) (hX : Below w.heap.size w X) => of_any s X (hlaid.below hX (Nat.le_refl _)) (by omega))
 unfold DSumPost at HC2
 have HBD := Lib.hid (fun w9 => build_sig (x := sgOne (nums s)) hok.2.2.1 w9)
 have SZ := Lib.hid (sig_size hok)
 have SQ := Lib.hid (sig_same sgz_ok hok)
 have SO := Lib.hid (sig_ones (sgOne (nums s)))
 have hrA : ∀ X, Below (w.heap.size + 1) (w.alloc (.cells (KSig.cs sgz).toArray 102)) X → X.heap[w.heap.size]? = some (.cells (KSig.cs sgz).toArray 102) := fun X hX => (hX.block _ (by omega)).trans (heap_alloc_new w _)
 have hbA : Below w.heap.size w (w.alloc (.cells (KSig.cs sgz).toArray 102)) := (Below.refl _ _).alloc (Nat.le_refl _) _
 have hszA : (w.alloc (.cells (KSig.cs sgz).toArray 102)).heap.size = w.heap.size + 1 := World.size_alloc _ _
 simp only [show (sgOne (nums s)).wk = rlS (nums s) from rfl, show (sgOne (nums s)).ds = SH.sum (nums s) from rfl] at HBD
 rw [show KSig.v ⟨0, List.replicate 32 0⟩ = .agg (KSig.cs sgz).toArray from rfl] at hz
 rw [show KSig.v (sgOne (nums s)) = .agg (KSig.cs (sgOne (nums s))).toArray from rfl] at HBD ⊢
 have hzne : ¬ (KSig.cs sgz).toArray = #[] := by simp [KSig, Sg.cs]
 have HRA := Lib.hid hrA
 have HBA := Lib.hid hbA
 have HSZ := Lib.hid hszA
 generalize (KSig.cs sgz).toArray = Z at *
 generalize (KSig.cs (sgOne (nums s))).toArray = V at *
 generalize rlS (nums s) = R at *
 generalize bvals (SH.sum (nums s)) = D at *
 clear hrA hbA hszA hok hlaid
 go_enter Tryz.func53, Tryz.ntmps53
 go_wp2_with fail
 refine (HC1.out _).mono ?_
 rintro e w1 ⟨rfl, hb1⟩
 rw [HSZ.out] at hb1
 have HB1 := Lib.hid hb1
 clear hb1
 go_wp2_with fail
 refine (HC2.out _ (HBA.out.trans (HB1.out.mono (by omega)))).mono ?_
 rintro e w2 ⟨rfl, hb2⟩
 have HB2 := Lib.hid (HB1.out.trans (hb2.mono (by have := HB1.out.size; rw [HSZ.out] at this; exact this)))
 have F1 := Lib.hid (HRA.out _ HB2.out)
 have F2 := Lib.hid (show (w2.setRow w.heap.size V).heap[w.heap.size]? = some (.cells V 102) from setRow_heap _ _ _ _ _ _ F1.out)
 have F3 := Lib.hid (below_setRow (HBA.out.trans (HB2.out.mono (by omega))) (Nat.le_refl _) V)
 clear hb2
 go_wp2_with (first | ((with_reducible refine wpList_build_at (o := ⟨some 7, .build 102 #[(0, .tmp 4), (1, .tmp 6)], _, _, _, _⟩) ?e1 102 #[(0, .tmp 4), (1, .tmp 6)] ?e2 #[(0, .int .u32 R), (1, .agg D)] ?e3 _ (HBD.out w2) ?_); (case e1 => rfl); (case e2 => rfl); (case e3 => (simp only [List.map_toArray, List.map_cons, List.map_nil]; rfl))) | ((with_reducible refine wpList_store_row (o := ⟨none, .store 102 (.tmp 2) (.tmp 7), _, _, _, _⟩) ?e1 102 (.tmp 2) (.tmp 7) ?e2 w.heap.size V ?e3 ?e4 102 _ F1.out SZ.out SQ.out SO.out ?_); (case e1 => rfl); (case e2 => rfl); (case e3 => rfl); (case e4 => rfl)))
 exact bodyPost_ret (v := .agg V) (by exact results_cell_row Tryz.results53 _ _ w.heap.size 102 V (0, 0) _ rfl F2.out Tryz.underlying102 rfl SZ.out) (by rfl) ⟨rfl, F3.out⟩
end
section
open Go.RowKit WM
set_option maxRecDepth 100000
theorem cut_upto (s : ByteArray) (m : Nat) (hm : m ≤ s.size) (I : Int) (eI : I = m) (w : World) : (Instr.slice 9 (.string s) none (some (.int .i64 I)) none).run Tryz.prog w = .ok (.string (s.extract 0 m)) w := by
 subst eI
 have h := run_slice_string_h (P := Tryz.prog) (w := w) (t := 9) (s := s) Tryz.underlying9 .i64 (m : Int) (by omega) (by omega)
 simpa using h
theorem cut_from (s : ByteArray) (m : Nat) (hm : m ≤ s.size) (I : Int) (eI : I = m) (w : World) : (Instr.slice 9 (.string s) (some (.int .i64 I)) none none).run Tryz.prog w = .ok (.string (s.extract m s.size)) w := by
 subst eI
 have h := run_slice_string_l (P := Tryz.prog) (w := w) (t := 9) (s := s) Tryz.underlying9 .i64 (m : Int) (by omega) (by omega)
 simpa using h
set_option maxHeartbeats 4000000 in
theorem of10_new (s : ByteArray) (w : World) (hlaid : Laid w) (hs : s.size ≤ 2000000) : Calls Tryz.prog 38 #[.string s] w (KPostN KSig 102 w (sgOf (nums s))) := by
 have HN0 := Lib.hid (kpostN_nil (K := KSig) (te := 102) (Below.refl w.heap.size w))
 obtain ⟨n, hn⟩ : ∃ n, n = s.size := ⟨_, rfl⟩
 have HNN := Lib.hid (show (nums s).length = n by rw [nums_len, hn])
 have hlen : s.size = n := hn.symm
 have HSZ := Lib.hid hlen
 clear hn
 by_cases h1 : n < 24
 ·have HV := Lib.hid (sgOf_none (zs := nums s) (by rw [HNN.out]; exact h1))
  have t1 : (n : Int) < 24 := by omega
  go_enter Tryz.func38, Tryz.ntmps38
  go_wp2
  go_ret
  rw [HV.out]
  exact HN0.out
 ·have t0 : ¬ (n : Int) < 24 := by omega
  have h24 : ¬ (nums s).length < 24 := by rw [HNN.out]; exact h1
  obtain ⟨m, hm⟩ : ∃ m, m = n / 8 := ⟨_, rfl⟩
  have HLN := Lib.hid (sgOf_len h24)
  rw [HNN.out, ← hm] at HLN
  have HAT := Lib.hid (fun k (hk : k < m) => sgOf_at h24 (k := k) (by rw [HNN.out, ← hm]; exact hk))
  have HOK := Lib.hid (sgOf_ok (nums s))
  generalize sgOf (nums s) = L at *
  have hm8 : 8 * m ≤ n ∧ n < 8 * m + 8 := by omega
  have hquo : Int.tdiv (n : Int) 8 = (m : Int) := by rw [Int.tdiv_eq_ediv_of_nonneg (by omega)]; omega
  have HB := Lib.hid (Below.refl w.heap.size w)
  have HPS := Lib.hid (fun (p : ByteArray) (hp : p.size = 8) (X : World) (hX : Below w.heap.size w X) => one_any p X (hlaid.below hX (Nat.le_refl _)) (by omega))
  obtain ⟨i0, hi, hz0, hz1, hz2⟩ := info_parts infoSig
  have hzl : (KSig.v ⟨0, List.replicate 32 0⟩).cells.size = KSig.n := by decide
  have HUP := Lib.hid cut_upto
  have HFR := Lib.hid cut_from
  clear h1 h24 hm hlaid
  go_enter Tryz.func38, Tryz.ntmps38
  go_wp2_with (at_make; refine wpList_make_own _ rfl _ _ 44 rfl w.heap.size 102 i0 _ 33 Tryz.underlying44 hi hz0 hz1 .i64 .i64 (m : Int) m rfl rfl rfl (by rw [hz2]; omega) (by simp only [maxLen]; omega) (Nat.le_refl _) ?_; intro w1 hown hgrow; have OW := Lib.hid hown; have BW := Lib.hid ((Below.refl w.heap.size w).grown hgrow (Nat.le_refl _) (fun _ h => by cases h)); clear hown hgrow)
  go_loopw [0, 3] (fun r v wr => ∃ (k q : Nat) (R : ByteArray), k ≤ m ∧ R.size = q ∧ q + 8 * k = n ∧ r = .string R ∧ nums R = (nums s).drop (8 * k) ∧ wr.ownsRow w.heap.size 102 KSig.n v k ((L.take k).flatMap KSig.cs) ∧ Below w.heap.size w wr) (fun r _ _ => match r with | .string R => R.size | _ => 0)
  case atStart => exact ⟨0, n, s, Nat.zero_le _, hlen, rfl, rfl, by simp, OW.out, BW.out⟩
  case round =>
   obtain ⟨k, q, R, hk, hq, hqn, rfl, hR, ho, hb⟩ := hrel
   have HO := Lib.hid ho
   have HBB := Lib.hid hb
   have HRR := Lib.hid hR
   have HQ := Lib.hid hq
   have HQN := Lib.hid hqn
   by_cases hlt : k < m
   ·have t1 : (8 : Int) ≤ (q : Int) := by omega
    have hup := HUP.out R 8 (by omega) 8 rfl
    have hfr := HFR.out R 8 (by omega) 8 rfl
    have HNP := Lib.hid (show nums (R.extract 0 8) = ((nums s).drop (8 * k)).take 8 by rw [nums_extract, hR, List.drop_zero])
    have HZP := Lib.hid (show (R.extract 0 8).size = 8 from extract_size _ _ _ (by omega))
    have HNF := Lib.hid (show nums (R.extract 8 R.size) = (nums s).drop (8 * (k + 1)) by
     rw [nums_extract, hR, List.drop_drop, List.take_of_length_le (by rw [List.length_drop, HNN.out]; omega)]
     rw [show 8 * (k + 1) = 8 * k + 8 by omega])
    have HZF := Lib.hid (show (R.extract 8 R.size).size = q - 8 by rw [extract_size _ _ _ (Nat.le_refl _), hq])
    have HC := Lib.hid (HPS.out (R.extract 0 8) HZP.out wr hb)
    rw [HNP.out, ← HAT.out k hlt] at HC
    have HXO := Lib.hid (HOK.out (L.getD k sg0) (by rw [List.getD_eq_getElem?_getD, List.getElem?_eq_getElem (by rw [HLN.out]; exact hlt)]; exact List.getElem_mem _))
    have HTK := Lib.hid (show L.take (k + 1) = L.take k ++ [L.getD k sg0] by
     rw [List.take_succ_eq_append_getElem (by rw [HLN.out]; exact hlt), List.getD_eq_getElem?_getD, List.getElem?_eq_getElem (by rw [HLN.out]; exact hlt)]
     rfl)
    clear HNP HZP hR
    generalize R.extract 0 8 = p at *
    generalize R.extract 8 R.size = f at *
    generalize L.getD k sg0 = x at *
    clear ho hb hqn
    go_wp2_with fail
    refine HC.out.mono ?_
    rintro e w1 ⟨rfl, hb1⟩
    have B1 := Lib.hid (HBB.out.trans (hb1.mono HBB.out.size))
    have O1 := Lib.hid ((own_below HO.out hb1).alloc (.cells (KSig.cs x).toArray 102))
    have B2 := Lib.hid (B1.out.alloc B1.out.size (.cells (KSig.cs x).toArray 102))
    have R2 := Lib.hid (Kind.row_one (K := KSig) (w := w1) (x := x) (t := 102) HXO.out)
    have VL : Hid (k + 1 ≤ 10000000) := Lib.hid (by omega)
    have VS := Lib.hid B2.out.size
    have XL := Lib.hid (show (KSig.cs x).length = KSig.n from Sg.cs_len HXO.out)
    clear hb1
    go_wp2_with (first | ((with_reducible refine wpList_bsliceK (K := KSig) (o := ⟨some 18, .buildSlice 44 1 #[(0, .tmp 17)], _, _, _, _⟩) ?e1 (.tmp 17) ?e2 x ?e3 XL.out Tryz.underlying44 sizeSigK zeroSig nSig ?_); (case e1 => rfl); (case e2 => rfl); (case e3 => rfl)) | (at_builtin; refine wpList_append_K (K := KSig) _ rfl _ _ 44 rfl w.heap.size 102 i0 _ 36 Tryz.underlying44 hi hz0 hz1 hz2 hzl (by omega) _ k (L.take k) rfl O1.out (some ⟨w1.heap.size, 0, none⟩) 1 1 [x] rfl R2.out rfl VL.out VS.out ?_; intro v3 w3 ho3 hg3; have O3 := Lib.hid ho3; have B3 := Lib.hid (B2.out.grown hg3 B2.out.size (fun g hg => own_base O1.out hg)); obtain ⟨g13, cap13, rfl⟩ := ownsRow_succ ho3; clear ho3 hg3))
    go_roundw
    case rel => exact ⟨k + 1, q - 8, f, by omega, HZF.out, by have := HQN.out; omega, rfl, HNF.out, by rw [HTK.out]; exact O3.out, B3.out⟩
    case measure => simp only [HZF.out]; have := HQ.out; omega
   ·obtain rfl : k = m := by omega
    have t1 : ¬ (8 : Int) ≤ (q : Int) := by omega
    have hT : L.take k = L := List.take_of_length_le (by rw [HLN.out]; exact Nat.le_refl _)
    rw [hT] at ho
    have hll := HLN.out
    rw [← hll] at ho
    have HO := Lib.hid ho
    clear ho hb hT hll hR
    go_wp2
    go_ret
    exact kpostN_own HO.out HOK.out HBB.out
end
section
open Go.RowKit WM
set_option maxRecDepth 20000
def heldV (v : Value) : Option (DataW Value × List MemPlace) := some (.held v, [])
structure MKey (P : Program) (α : Type) where
 t : TypeId
 v : α → Value
 ok : α → Prop
 key : ∀ {x : α}, ok x → ∃ l, keyOf P t (v x) = some l
 inj : ∀ {x y : α}, v x = v y → x = y
 law : WideMaps.KeyLaw P t
section
variable {P : Program} {α : Type} {K : MKey P α} {w w' : World} {b n : Nat} {f : α → Option Value} {z : Value}
theorem MKey.keyed (K : MKey P α) : Maps.Keyed P K.t := Maps.Keyed.of_law K.law
theorem MKey.ne {x y : α} {k l : Lit} (hx : keyOf P K.t (K.v x) = some k) (hy : keyOf P K.t (K.v y) = some l) (h : x ≠ y) : k ≠ l := by
 rintro rfl
 exact h (K.inj (K.law.inj hx hy))
def GMs (K : MKey P α) (w : World) (b n : Nat) (f : α → Option Value) (z : Value) : Prop :=
 ∃ D : DataW Value, w.ownsMap P K.t heldV b n D ∧ ∀ x l, keyOf P K.t (K.v x) = some l → Maps.has D l = (f x).isSome ∧ D.atKey l (.held z) = .held ((f x).getD z)
theorem GMs.lt (h : GMs K w b n f z) : b < w.heap.size := by obtain ⟨D, h, _⟩ := h; exact h.lt
theorem GMs.same (h : GMs K w b n f z) (hb : w'.heap[b]? = w.heap[b]?) : GMs K w' b n f z := by
 obtain ⟨D, ⟨es, clock, hh, r⟩, h2⟩ := h
 exact ⟨D, ⟨es, clock, hb.trans hh, r⟩, h2⟩
theorem GMs.more {m : Nat} (h : GMs K w b n f z) (hm : n ≤ m) : GMs K w b m f z := by
 obtain ⟨D, ⟨es, clock, hh, F, hs, r⟩, h2⟩ := h
 exact ⟨D, ⟨es, clock, hh, F, Nat.le_trans hs hm, r⟩, h2⟩
theorem GMs.below {B : Nat} (h : GMs K w b n f z) (hb : Below B w w') (hB : b < B) : GMs K w' b n f z := h.same (hb.block b hB)
theorem GMs.made (K : MKey P α) (w : World) (z : Value) : GMs K (w.alloc (.map #[] 0)) w.heap.size 0 (fun _ => none) z :=
 ⟨.map [], World.ownsMap_made w _ _ _, fun x l _ => ⟨rfl, Maps.atKey_of_not_has rfl _⟩⟩
theorem GMs.look (h : GMs K w b n f z) {t e : TypeId} (ht : P.underlying t = some (.map K.t e)) (hz : ∀ w, (zeroValue e).run P w = .ok z w) {x : α} (hx : K.ok x) :
  (Instr.lookup t (.map (some b)) (K.v x) true).run P w = .ok (.tuple #[(f x).getD z, .bool (f x).isSome]) w := by
 obtain ⟨D, h1, h2⟩ := h
 obtain ⟨l, hl⟩ := K.key hx
 obtain ⟨v, ps, hr, hv⟩ := h1.look_ok K.keyed ht (hz w) (zd := .held z) (zp := []) rfl hl
 rw [(h2 x l hl).2] at hv
 simp only [heldV, Option.some.injEq, Prod.mk.injEq, DataW.held.injEq] at hv
 rw [hr, (h2 x l hl).1, hv.1]
def fput [DecidableEq α] (f : α → Option Value) (x : α) (v : Value) : α → Option Value := fun y => if y = x then some v else f y
theorem GMs.store [DecidableEq α] (h : GMs K w b n f z) (hn : n < 1000000000) {t e : TypeId} (ht : P.underlying t = some (.map K.t e)) {x : α} (hx : K.ok x) (v : Value) :
  ∃ w', (Instr.mapUpdate t (.map (some b)) (K.v x) v).run P w = .ok () w' ∧ GMs K w' b (n + 1) (fput f x v) z ∧ w.grownBy w' (some b) := by
 obtain ⟨D, h1, h2⟩ := h
 obtain ⟨l, hl⟩ := K.key hx
 obtain ⟨w', hr, ho, hg⟩ := h1.update K.keyed ht (by simp only [maxLen]; omega) hl (d := .held v) (ps := []) rfl
 have hkl := K.keyed.key hl
 refine ⟨w', hr, ⟨_, ho, fun y m hm => ?_⟩, hg⟩
 unfold fput
 by_cases hy : y = x
 ·subst hy
  rw [hl] at hm
  obtain rfl := Option.some.inj hm
  rw [if_pos rfl]
  exact ⟨Maps.has_put_same h1.isMap hkl _, Maps.atKey_put_same h1.isMap hkl _ _⟩
 ·rw [if_neg hy]
  have hne : m ≠ l := MKey.ne hm hl hy
  rw [Maps.has_put_other hne, Maps.atKey_put_other hne]
  exact h2 y m hm
end
end
section
open Go.RowKit WM
set_option maxRecDepth 100000
end
section
open Go.RowKit WM
set_option maxRecDepth 100000
end
end
section
open Go.RowKit WM
set_option maxRecDepth 100000
abbrev Dk := List Int × Int
def Dk.cs (k : Dk) : List Value := k.1.map (Value.int .u8) ++ [.int .i64 k.2]
def Dk.v (k : Dk) : Value := .agg (Dk.cs k).toArray
def Dk.ok (k : Dk) : Prop := k.1.length = 32 ∧ AllBytes k.1 ∧ (Lit.int .i64 k.2).wf = true
theorem bytes_inj {x y : List Int} (h : x.map (Value.int .u8) = y.map (Value.int .u8)) : x = y := by
 have h4 : (x.map (Value.int .u8)).map intOf = (y.map (Value.int .u8)).map intOf := congrArg (List.map intOf) h
 rw [List.map_map, List.map_map] at h4
 simpa [Function.comp_def, intOf] using h4
theorem Dk.inj {x y : Dk} (h : Dk.v x = Dk.v y) : x = y := by
 have h1 := congrArg (fun v => v.cells.toList) h
 simp only [Dk.v, Dk.cs, Value.cells] at h1
 obtain ⟨h2, h3⟩ := List.append_inj' h1 rfl
 simp only [List.cons.injEq, Value.int.injEq, true_and, and_true] at h3
 exact Prod.ext (bytes_inj h2) h3
theorem Dk.len {k : Dk} (h : Dk.ok k) : (Dk.cs k).length = 33 := by simp [Dk.cs, h.1]
theorem Dk.key {x : Dk} (h : Dk.ok x) : ∃ l, keyOf Tryz.prog 81 (Dk.v x) = some l := by
 have c33 : Tryz.prog.cellsOf 81 = 33 := by kernel_rfl
 have c32 : Tryz.prog.cellsOf 23 = 32 := by kernel_rfl
 have c1 : Tryz.prog.cellsOf 3 = 1 := by kernel_rfl
 have kt : Tryz.prog.keyType 81 = true := by kernel_rfl
 have hs : ∃ d, Tryz.prog.types.size + 1 = d + 3 := ⟨Tryz.prog.types.size - 2, by have : 2 ≤ Tryz.prog.types.size := of_decide_eq_true (by kernel_rfl); omega⟩
 obtain ⟨d, hd⟩ := hs
 obtain ⟨ls, hls⟩ := key_dig h.1 h.2.1 d
 have h1 : Tryz.prog.keyLits (d + 2) 3 [.int .i64 x.2] = some [Lit.int .i64 x.2] := by
  unfold Program.keyLits
  rw [Tryz.underlying3]
  dsimp only
  rw [if_pos ⟨rfl, h.2.2⟩]
 have hk : ∃ l, Tryz.prog.keyLits (d + 3) 81 (Dk.cs x) = some l := by
  unfold Program.keyLits
  rw [Tryz.underlying81]
  dsimp only
  rw [if_pos ⟨by rw [Dk.len h, c33], by kernel_rfl⟩]
  simp only [List.mapM_cons, List.mapM_nil, c32, c1, Dk.cs]
  rw [show List.take 32 (List.drop 0 (x.1.map (Value.int .u8) ++ [Value.int .i64 x.2])) = x.1.map (Value.int .u8) from by rw [List.drop_zero]; exact List.take_left' (by simp [h.1]), hls]
  rw [show List.take 1 (List.drop 32 (x.1.map (Value.int .u8) ++ [Value.int .i64 x.2])) = [Value.int .i64 x.2] from by rw [List.drop_left' (by simp [h.1])]; rfl, h1]
  exact ⟨_, rfl⟩
 obtain ⟨l, hl⟩ := hk
 refine ⟨.string (keyBytes l), ?_⟩
 unfold keyOf
 rw [Tryz.underlying81]
 dsimp only
 rw [if_pos (by rw [kt]; simp [Value.formed, Dk.v, Tryz.underlying81, Dk.len h, c33]), hd]
 show ((Tryz.prog.keyLits (d + 3) 81 (Dk.cs x)).map fun ls => Lit.string (keyBytes ls)) = _
 rw [hl]
 rfl
theorem dkLaw : WideMaps.KeyLaw Tryz.prog 81 := deep_law (m := 3) (by decide) (by kernel_rfl) (by kernel_rfl) (by rw [Tryz.underlying81])
def mkDk : MKey Tryz.prog Dk := { t := 81, v := Dk.v, ok := Dk.ok, key := fun h => Dk.key h, inj := fun h => Dk.inj h, law := dkLaw }
def plC (z : List Int) (no : Int) : List Value := z.map (Value.int .u8) ++ [.int .i64 no]
def plV (p : List Int × Int) : Value := .agg (plC p.1 p.2).toArray
def plZ : Value := plV (z16m, 0)
theorem zeroPlace (w : World) : (zeroValue 76).run Tryz.prog w = .ok plZ w := (zero_of_info (show (Tryz.prog.info? 76).map (fun i => (i.zero, i.size)) = some (some plZ, 17) by kernel_rfl)).1 w
def allE (ls : List LnA) : List (List Int × EnA) := ls.flatMap fun x => x.es.map fun e => (x.z, e)
def ieK (x : List Int × EnA) : Dk := (x.2.e.ds, x.2.e.len)
def iePl (x : List Int × EnA) : List Int × Int := (x.1, x.2.e.no)
def fE (L : List (List Int × EnA)) : Dk → Option Value := fun k => (L.find? fun x => decide (ieK x = k)).map fun x => plV (iePl x)
theorem fE_snoc (L : List (List Int × EnA)) (x : List Int × EnA) : fE (L ++ [x]) = if (fE L (ieK x)).isSome then fE L else fput (fE L) (ieK x) (plV (iePl x)) := by
 funext k
 unfold fE fput
 rw [List.find?_append]
 by_cases hk : ieK x = k
 ·subst hk
  cases hf : L.find? fun y => decide (ieK y = ieK x) with
  | none => simp
  | some y => simp [hf]
 ·have hk' : ¬ k = ieK x := fun e => hk e.symm
  have h1 : List.find? (fun x => decide (ieK x = k)) [x] = none := by simp [hk]
  rw [h1, Option.or_none]
  split
  ·rfl
  ·simp only [if_neg hk']
theorem find_line (z : List Int) (d : List Int) (n : Int) : ∀ es : List EnA, (es.map fun e => (z, e)).find? (fun x => decide (ieK x = (d, n))) = (es.find? fun e => decide (e.e.ds = d ∧ e.e.len = n)).map fun e => (z, e)
 | [] => rfl
 | e :: es => by
  rw [List.map_cons]
  by_cases h : e.e.ds = d ∧ e.e.len = n
  ·rw [List.find?_cons_of_pos (by simp [ieK, h.1, h.2]), List.find?_cons_of_pos (by simp [h.1, h.2])]
   rfl
  ·rw [List.find?_cons_of_neg (by simp only [ieK, decide_eq_true_eq, Prod.mk.injEq]; exact h), List.find?_cons_of_neg (by simp only [decide_eq_true_eq]; exact h)]
   exact find_line z d n es
theorem elike_A (d : List Int) (n : Int) : ∀ es : List EnA, elike (es.map (·.e)) d n = (es.find? fun e => decide (e.e.ds = d ∧ e.e.len = n)).map (·.e)
 | [] => rfl
 | e :: es => by
  rw [List.map_cons]
  unfold elike
  by_cases h : e.e.ds = d ∧ e.e.len = n
  ·rw [List.find?_cons_of_pos (by simpa using h), List.find?_cons_of_pos (by simpa using h)]
   rfl
  ·rw [List.find?_cons_of_neg (by simp only [decide_eq_true_eq]; exact h), List.find?_cons_of_neg (by simp only [decide_eq_true_eq]; exact h)]
   exact elike_A d n es
theorem fE_all (d : List Int) (n : Int) : ∀ ls : List LnA, fE (allE ls) (d, n) = (llike (ls.map (·.x)) d n).map plV
 | [] => rfl
 | x :: ls => by
  have ih := fE_all d n ls
  unfold fE allE at *
  rw [List.flatMap_cons, List.find?_append, find_line, List.map_cons, llike, show (x.x).es = x.es.map (·.e) from rfl, elike_A]
  cases h : x.es.find? fun e => decide (e.e.ds = d ∧ e.e.len = n) with
  | none =>
   simp only [Option.map_none, Option.none_or]
   exact ih
  | some e => rfl
theorem allE_take {ls : List LnA} {k : Nat} (hk : k < ls.length) : allE (ls.take (k + 1)) = allE (ls.take k) ++ (ls.getD k lnA0).es.map fun e => ((ls.getD k lnA0).z, e) := by
 unfold allE
 rw [List.take_succ_eq_append_getElem hk, List.getD_eq_getElem?_getD, List.getElem?_eq_getElem hk, List.flatMap_append]
 simp
theorem mapE_take {es : List EnA} {j : Nat} (z : List Int) (hj : j < es.length) : (es.take (j + 1)).map (fun e => (z, e)) = (es.take j).map (fun e => (z, e)) ++ [(z, es.getD j enA0)] := by
 rw [List.take_succ_eq_append_getElem hj, List.getD_eq_getElem?_getD, List.getElem?_eq_getElem hj, List.map_append]
 rfl
end
section
open Go.RowKit WM
set_option maxRecDepth 100000
def ClonePost (w : World) (fs : List Fld) (e : Ending) (w' : World) : Prop := ∃ A c, e = .returned (.slice A fs.length c) ∧ FsAt w' A c fs ∧ Below w.heap.size w w'
theorem clone_end {w w' : World} {v : Value} {n : Nat} {fs : List Fld} (hl : fs.length = n) (ho : w'.ownsRow w.heap.size 71 4 v n (fs.flatMap Fld.cs)) (hb : Below w.heap.size w w') : ClonePost w fs (.returned v) w' := by
 subst hl
 have ho' := ho
 rcases ho.2 with ⟨rfl, h0⟩ | ⟨g, cap, cur, rfl, _⟩
 ·rw [h0] at ho'
  exact ⟨none, 0, by rw [h0], FsAt.own (base := w.heap.size) (by rw [h0]; exact ho'), hb⟩
 ·exact ⟨_, cap, rfl, FsAt.own ho', hb⟩
set_option maxHeartbeats 1000000 in
theorem fclone_any (A : Option Addr) (len c : Nat) (fs : List Fld) (w : World) (hl : fs.length = len) (h : FsAt w A c fs) (hs : len ≤ 1000) :
  Calls Tryz.prog 76 #[.slice A len c] w (ClonePost w fs) := by
 cases A with
 | none =>
  obtain ⟨h1, h2, h3, _⟩ := h
  have hc := h3 rfl
  subst hc
  have hn : fs = [] := List.eq_nil_of_length_eq_zero (by omega)
  subst hn
  simp at hl
  subst hl
  have HP : Hid (ClonePost w [] (.returned (.slice none 0 0)) w) := Lib.hid ⟨none, 0, rfl, FsAt.nil _ _ _ (by decide) (fun _ => rfl), Below.refl _ _⟩
  have heq : (binOp .eql 59 (.slice none 0 0) (.slice none 0 0)).run Tryz.prog w = .ok (.bool true) w := run_eql_slice_nil w _ 71 none 0 0 Tryz.underlying59
  go_enter Tryz.func76, Tryz.ntmps76
  go_wp2
  go_ret
  exact HP.out
 | some ad =>
  obtain ⟨i0, hi, hz0, hz1, hz2⟩ := info_parts infoFld
  have ho := World.ownsRow_made (base := w.heap.size) (size := 4) (e := 71) w #[] 0 (Nat.le_refl _) (by decide) rfl
  have HA := Lib.hid (h.below ((Below.refl w.heap.size w).alloc (Nat.le_refl _) (.cells #[] 71)) (Nat.le_refl _))
  have HL := Lib.hid hl
  have HB := Lib.hid ((Below.refl w.heap.size w).alloc (Nat.le_refl _) (.cells #[] 71))
  have heq : (binOp .eql 59 (.slice (some ad) len c) (.slice none 0 0)).run Tryz.prog w = .ok (.bool false) w := run_eql_slice_nil w _ 71 (some ad) len c Tryz.underlying59
  clear h hl
  go_enter Tryz.func76, Tryz.ntmps76
  go_wp2_with (at_builtin; refine wpList_append_fld _ rfl _ _ 59 rfl w.heap.size 71 i0 Tryz.underlying59 hi hz0 hz1 hz2 _ 0 [] rfl ho (some ad) len c fs rfl HA.out HL.out (by omega) (by simp) ?_; intro v2 w2 ho2 hg2)
  go_ret
  exact clone_end (by rw [HL.out]; omega) ho2 (HB.out.grown hg2 (by simp) (fun g hg => own_base ho hg))
theorem XAt.put {w : World} {b : Nat} {x : RcA} (h : XAt w b x) (A : Option Addr) (c : Nat) : XAt (w.setCell ⟨b, 18, none⟩ (.slice A x.R.fs.length c)) b ⟨x.R, A, c⟩ := h.rc.put _
def OwnPost (w : World) (R : Rc) (e : Ending) (w' : World) : Prop := ∃ y : RcA, e = .returned (.agg y.cells) ∧ y.R = R ∧ RvAt w' y ∧ Below w.heap.size w w'
theorem res_x {fn : Func} {p : Tmp} (h : fn.results = #[.cell p 61]) {tmps : Array Value} {w : World} {b : Nat} {x : RcA} (hp : tmps.getD p undef = .pointer (some ⟨b, 0, none⟩)) (hs : XAt w b x) :
  (results fn tmps).run Tryz.prog w = .ok (.agg x.cells) w := res_rc h hp hs.rc
set_option maxHeartbeats 2000000 in
theorem own_any (x : RcA) (w : World) (h : RvAt w x) (hs : x.R.fs.length ≤ 1000) : Calls Tryz.prog 66 #[.agg x.cells] w (OwnPost w x.R) := by
 have ZX := Lib.hid h.len
 have S0 := Lib.hid ((XAt.new w h.len).old (.cells rcA0.cells 61))
 have s1 := XAt.new (x := rcA0) (w.alloc (.cells x.cells 61)) z16_len
 rw [World.size_alloc] at s1
 have S1 := Lib.hid s1
 have HB := Lib.hid (((Below.refl w.heap.size w).alloc (Nat.le_refl _) (.cells x.cells 61)).alloc (by simp) (.cells rcA0.cells 61))
 have s0 := S0.out.c18
 have HC := Lib.hid (fclone_any x.A _ x.c x.R.fs _ rfl (h.2.below HB.out (Nat.le_refl _)) hs)
 unfold ClonePost at HC
 have HOK := Lib.hid h.1
 have hz := zeroX
 clear s1 h
 go_enter Tryz.func66, Tryz.ntmps66
 go_wp2_with fail
 refine HC.out.mono ?_
 rintro e w1 ⟨A', c', rfl, hF, hb⟩
 have T0 := S0.out.below hb S0.out.lt
 have T1 := Lib.hid (S1.out.below hb S1.out.lt)
 have HB1 := Lib.hid (HB.out.trans (hb.mono HB.out.size))
 have f18 := T0.fz 18
 have d18 := T0.c18
 have S0K := Lib.hid T0
 have T2 := T0.put A' c'
 have TL := Lib.hid T2.load
 have T3 := Lib.hid (show XAt (w1.setCell ⟨w.heap.size, 18, none⟩ (.slice A' x.R.fs.length c')) (w.heap.size + 1) rcA0 from T1.out.same (Below.heap_setCell _ _ _ _ (show w.heap.size + 1 ≠ w.heap.size by omega)))
 have HB2 := Lib.hid (HB1.out.setCell (p := ⟨w.heap.size, 18, none⟩) (Nat.le_refl _) (.slice A' x.R.fs.length c'))
 have HF := Lib.hid (show RvAt w1 (⟨x.R, A', c'⟩ : RcA) from ⟨HOK.out, hF⟩)
 have HBB := Lib.hid hb
 clear T0 T2 hb hF
 go_wp2_with (first | ((with_reducible refine wpList_load_by (o := ⟨some 7, .load 61 (.tmp 1), _, _, _, _⟩) ?e1 61 (.tmp 1) ?e2 ⟨w.heap.size, 0, none⟩ ?e3 _ TL.out ?_); (case e1 => rfl); (case e2 => rfl); (case e3 => rfl)) | ((with_reducible refine wpList_store_oldx (o := ⟨none, .store 61 (.tmp 2) (.tmp 7), _, _, _, _⟩) ?e1 (.tmp 2) (.tmp 7) ?e2 (w.heap.size + 1) _ T3.out ?e3 (⟨x.R, A', c'⟩ : RcA) ?e4 ZX.out ?_); (case e1 => rfl); (case e2 => rfl); (case e3 => rfl); (case e4 => rfl); intro w2 hg2 hx2; have G2 := Lib.hid hg2; have X2 := Lib.hid hx2; clear hg2 hx2))
 refine bodyPost_ret (v := .agg (⟨x.R, A', c'⟩ : RcA).cells) ?_ rfl ?_
 ·exact res_x Tryz.results66 rfl X2.out
 ·exact ⟨⟨x.R, A', c'⟩, rfl, rfl, (HF.out.kept_x (grownBy_setCell18 w1 w.heap.size 18 _) S0K.out).kept_x G2.out T3.out, HB2.out.grown G2.out HB2.out.size (fun k e => by have := Option.some.inj e; omega)⟩
theorem IdAt.below {w w' : World} {b B : Nat} {z : List Int} (h : IdAt w b z) (hb : Below B w w') (hB : b < B) : IdAt w' b z := ⟨h.1, (hb.block b hB).trans h.2⟩
theorem IdAt.lt {w : World} {b : Nat} {z : List Int} (h : IdAt w b z) : b < w.heap.size := (Array.getElem?_eq_some_iff.1 h.2).1
theorem IdAt.old {w : World} {b : Nat} {z : List Int} (h : IdAt w b z) (o : Obj) : IdAt (w.alloc o) b z := h.below ((Below.refl w.heap.size w).alloc (Nat.le_refl _) o) h.lt
theorem IdAt.new (w : World) {z : List Int} (h : z.length = 16) : IdAt (w.alloc (.cells (bvals z) 30)) w.heap.size z := ⟨h, heap_alloc_new w _⟩
end
end Go.Proofs.YtkjimhlpbgeagaaGreatDoor
