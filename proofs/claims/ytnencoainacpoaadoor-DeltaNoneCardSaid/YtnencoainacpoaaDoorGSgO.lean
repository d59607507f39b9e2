import Derived.Test.YtnencoainacpoaaDoorSgBase
import Derived.Test.YtnencoainacpoaaDoorGShaD
import Derived.Test.YtnencoainacpoaaDoorGRl
import Derived.Test.YtnencoainacpoaaDoorGBase
import Derived.Maps.OwnSet
import Derived.Maps.Views
import Derived.DeepKeys4
import Derived.Test.YtnencoainacpoaaDoorGUni
section
/-
  What sign.One answers. Nothing that was there is written.
-/
namespace Go.Proofs.YtnencoainacpoaaDoor
open Go.RowKit WM
set_option linter.unusedVariables false
set_option maxRecDepth 100000
set_option maxHeartbeats 2000000 in
theorem one_any (s : ByteArray) (w : World) (hlaid : Laid w) (hs : s.size ≤ 1000000) : Calls Tryd.prog 44 #[.string s] w fun e w' => e = .returned (KSig.v (sgOne (nums s))) ∧ Below w.heap.size w w' := by
  have hz := zeroSig
  have hok := sgOne_ok (nums s)
  have HC1 := Lib.hid (fun w => rlsum_any s w hs)
  have HC2 := Lib.hid (fun (X : World) (hX : Below w.heap.size w X) => of_any s X (hlaid.below hX (Nat.le_refl _)) (by omega))
  unfold DSumPost at HC2
  have HBD := Lib.hid (fun w9 => build_sig (x := sgOne (nums s)) hok.2.2.1 w9)
  have SZ := Lib.hid (sig_size hok)
  have SQ := Lib.hid (sig_same sgz_ok hok)
  have SO := Lib.hid (sig_ones (sgOne (nums s)))
  have hrA : ∀ X, Below (w.heap.size + 1) (w.alloc (.cells (KSig.cs sgz).toArray 81)) X → X.heap[w.heap.size]? = some (.cells (KSig.cs sgz).toArray 81) := fun X hX => (hX.block _ (by omega)).trans (heap_alloc_new w _)
  have hbA : Below w.heap.size w (w.alloc (.cells (KSig.cs sgz).toArray 81)) := (Below.refl _ _).alloc (Nat.le_refl _) _
  have hszA : (w.alloc (.cells (KSig.cs sgz).toArray 81)).heap.size = w.heap.size + 1 := World.size_alloc _ _
  simp only [show (sgOne (nums s)).wk = rlS (nums s) from rfl, show (sgOne (nums s)).ds = SH.sum (nums s) from rfl] at HBD
  rw [show KSig.v ⟨0, List.replicate 32 0⟩ = .agg (KSig.cs sgz).toArray from rfl] at hz
  rw [show KSig.v (sgOne (nums s)) = .agg (KSig.cs (sgOne (nums s))).toArray from rfl] at HBD ⊢
  have hzne : ¬ (KSig.cs sgz).toArray = #[] := by simp [KSig, Sg.cs]
  have HRA := Lib.hid hrA
  have HBA := Lib.hid hbA
  have HSZ := Lib.hid hszA
  generalize (KSig.cs sgz).toArray = Z at *
  generalize (KSig.cs (sgOne (nums s))).toArray = V at *
  generalize rlS (nums s) = R at *
  generalize bvals (SH.sum (nums s)) = D at *
  clear hrA hbA hszA hok hlaid
  go_enter Tryd.func44, Tryd.ntmps44
  go_wp2_with fail
  refine (HC1.out _).mono ?_
  rintro e w1 ⟨rfl, hb1⟩
  rw [HSZ.out] at hb1
  have HB1 := Lib.hid hb1
  clear hb1
  go_wp2_with fail
  refine (HC2.out _ (HBA.out.trans (HB1.out.mono (by omega)))).mono ?_
  rintro e w2 ⟨rfl, hb2⟩
  have HB2 := Lib.hid (HB1.out.trans (hb2.mono (by have := HB1.out.size; rw [HSZ.out] at this; exact this)))
  have F1 := Lib.hid (HRA.out _ HB2.out)
  have F2 := Lib.hid (show (w2.setRow w.heap.size V).heap[w.heap.size]? = some (.cells V 81) from setRow_heap _ _ _ _ _ _ F1.out)
  have F3 := Lib.hid (below_setRow (HBA.out.trans (HB2.out.mono (by omega))) (Nat.le_refl _) V)
  clear hb2
  go_wp2_with (first | ((with_reducible refine wpList_build_at (o := ⟨some 7, .build 81 #[(0, .tmp 4), (1, .tmp 6)], _, _, _, _⟩) ?e1 81 #[(0, .tmp 4), (1, .tmp 6)] ?e2 #[(0, .int .u32 R), (1, .agg D)] ?e3 _ (HBD.out w2) ?_); (case e1 => rfl); (case e2 => rfl); (case e3 => (simp only [List.map_toArray, List.map_cons, List.map_nil]; rfl))) | ((with_reducible refine wpList_store_row (o := ⟨none, .store 81 (.tmp 2) (.tmp 7), _, _, _, _⟩) ?e1 81 (.tmp 2) (.tmp 7) ?e2 w.heap.size V ?e3 ?e4 81 _ F1.out SZ.out SQ.out SO.out ?_); (case e1 => rfl); (case e2 => rfl); (case e3 => rfl); (case e4 => rfl)))
  exact bodyPost_ret (v := .agg V) (by exact results_cell_row Tryd.results44 _ _ w.heap.size 81 V (0, 0) _ rfl F2.out Tryd.underlying81 rfl SZ.out) (by rfl) ⟨rfl, F3.out⟩
end Go.Proofs.YtnencoainacpoaaDoor

end
section
/-
  What sign.Of answers. Nothing that was there is written.
-/
namespace Go.Proofs.YtnencoainacpoaaDoor
open Go.RowKit WM
set_option linter.unusedVariables false
set_option maxRecDepth 100000
theorem of10_nil (s : ByteArray) (w : World) (hs : s.size < 24) : Calls Tryd.prog 25 #[.string s] w fun e w' => e = .returned (.slice none 0 0) ∧ Below w.heap.size w w' := by
  have HB := Lib.hid (Below.refl w.heap.size w)
  have t1 : (s.size : Int) < 24 := by omega
  go_enter Tryd.func25, Tryd.ntmps25
  go_wp2
  go_ret
  exact ⟨rfl, HB.out⟩
theorem cut_upto (s : ByteArray) (m : Nat) (hm : m ≤ s.size) (I : Int) (eI : I = m) (w : World) : (Instr.slice 9 (.string s) none (some (.int .i64 I)) none).run Tryd.prog w = .ok (.string (s.extract 0 m)) w := by
  subst eI
  have h := run_slice_string_h (P := Tryd.prog) (w := w) (t := 9) (s := s) Tryd.underlying9 .i64 (m : Int) (by omega) (by omega)
  simpa using h
theorem cut_from (s : ByteArray) (m : Nat) (hm : m ≤ s.size) (I : Int) (eI : I = m) (w : World) : (Instr.slice 9 (.string s) (some (.int .i64 I)) none none).run Tryd.prog w = .ok (.string (s.extract m s.size)) w := by
  subst eI
  have h := run_slice_string_l (P := Tryd.prog) (w := w) (t := 9) (s := s) Tryd.underlying9 .i64 (m : Int) (by omega) (by omega)
  simpa using h
set_option maxHeartbeats 4000000 in
theorem of10_any (s : ByteArray) (w : World) (hlaid : Laid w) (hs : s.size ≤ 2000000) : Calls Tryd.prog 25 #[.string s] w (KPost KSig w (sgOf (nums s))) := by
  have HN0 := Lib.hid (kpost_nil (K := KSig) (Below.refl w.heap.size w))
  obtain ⟨n, hn⟩ : ∃ n, n = s.size := ⟨_, rfl⟩
  have HNN := Lib.hid (show (nums s).length = n by rw [nums_len, hn])
  have hlen : s.size = n := hn.symm
  have HSZ := Lib.hid hlen
  clear hn
  by_cases h1 : n < 24
  · have HV := Lib.hid (sgOf_none (zs := nums s) (by rw [HNN.out]; exact h1))
    have t1 : (n : Int) < 24 := by omega
    go_enter Tryd.func25, Tryd.ntmps25
    go_wp2
    go_ret
    rw [HV.out]
    exact HN0.out
  · have t0 : ¬ (n : Int) < 24 := by omega
    have h24 : ¬ (nums s).length < 24 := by rw [HNN.out]; exact h1
    obtain ⟨m, hm⟩ : ∃ m, m = n / 8 := ⟨_, rfl⟩
    have HLN := Lib.hid (sgOf_len h24)
    rw [HNN.out, ← hm] at HLN
    have HAT := Lib.hid (fun k (hk : k < m) => sgOf_at h24 (k := k) (by rw [HNN.out, ← hm]; exact hk))
    have HOK := Lib.hid (sgOf_ok (nums s))
    generalize sgOf (nums s) = L at *
    have hm8 : 8 * m ≤ n ∧ n < 8 * m + 8 := by omega
    have hquo : Int.tdiv (n : Int) 8 = (m : Int) := by rw [Int.tdiv_eq_ediv_of_nonneg (by omega)]; omega
    have HB := Lib.hid (Below.refl w.heap.size w)
    have HPS := Lib.hid (fun (p : ByteArray) (hp : p.size = 8) (X : World) (hX : Below w.heap.size w X) => one_any p X (hlaid.below hX (Nat.le_refl _)) (by omega))
    obtain ⟨i0, hi, hz0, hz1, hz2⟩ := info_parts infoSig
    have hzl : (KSig.v ⟨0, List.replicate 32 0⟩).cells.size = KSig.n := by decide
    have HUP := Lib.hid cut_upto
    have HFR := Lib.hid cut_from
    clear h1 h24 hm hlaid
    go_enter Tryd.func25, Tryd.ntmps25
    go_wp2_with (at_make; refine wpList_make_own _ rfl _ _ 23 rfl w.heap.size 81 i0 _ 33 Tryd.underlying23 hi hz0 hz1 .i64 .i64 (m : Int) m rfl rfl rfl (by rw [hz2]; omega) (by simp only [maxLen]; omega) (Nat.le_refl _) ?_; intro w1 hown hgrow; have OW := Lib.hid hown; have BW := Lib.hid ((Below.refl w.heap.size w).grown hgrow (Nat.le_refl _) (fun _ h => by cases h)); clear hown hgrow)
    go_loopw [0, 3] (fun r v wr => ∃ (k q : Nat) (R : ByteArray), k ≤ m ∧ R.size = q ∧ q + 8 * k = n ∧ r = .string R ∧ nums R = (nums s).drop (8 * k) ∧ wr.ownsRow w.heap.size 81 KSig.n v k ((L.take k).flatMap KSig.cs) ∧ Below w.heap.size w wr) (fun r _ _ => match r with | .string R => R.size | _ => 0)
    case atStart => exact ⟨0, n, s, Nat.zero_le _, hlen, rfl, rfl, by simp, OW.out, BW.out⟩
    case round =>
      obtain ⟨k, q, R, hk, hq, hqn, rfl, hR, ho, hb⟩ := hrel
      have HO := Lib.hid ho
      have HBB := Lib.hid hb
      have HRR := Lib.hid hR
      have HQ := Lib.hid hq
      have HQN := Lib.hid hqn
      by_cases hlt : k < m
      · have t1 : (8 : Int) ≤ (q : Int) := by omega
        have hup := HUP.out R 8 (by omega) 8 rfl
        have hfr := HFR.out R 8 (by omega) 8 rfl
        have HNP := Lib.hid (show nums (R.extract 0 8) = ((nums s).drop (8 * k)).take 8 by rw [nums_extract, hR, List.drop_zero])
        have HZP := Lib.hid (show (R.extract 0 8).size = 8 from extract_size _ _ _ (by omega))
        have HNF := Lib.hid (show nums (R.extract 8 R.size) = (nums s).drop (8 * (k + 1)) by
          rw [nums_extract, hR, List.drop_drop, List.take_of_length_le (by rw [List.length_drop, HNN.out]; omega)]
          rw [show 8 * (k + 1) = 8 * k + 8 by omega])
        have HZF := Lib.hid (show (R.extract 8 R.size).size = q - 8 by rw [extract_size _ _ _ (Nat.le_refl _), hq])
        have HC := Lib.hid (HPS.out (R.extract 0 8) HZP.out wr hb)
        rw [HNP.out, ← HAT.out k hlt] at HC
        have HXO := Lib.hid (HOK.out (L.getD k sg0) (by rw [List.getD_eq_getElem?_getD, List.getElem?_eq_getElem (by rw [HLN.out]; exact hlt)]; exact List.getElem_mem _))
        have HTK := Lib.hid (show L.take (k + 1) = L.take k ++ [L.getD k sg0] by
          rw [List.take_succ_eq_append_getElem (by rw [HLN.out]; exact hlt), List.getD_eq_getElem?_getD, List.getElem?_eq_getElem (by rw [HLN.out]; exact hlt)]
          rfl)
        clear HNP HZP hR
        generalize R.extract 0 8 = p at *
        generalize R.extract 8 R.size = f at *
        generalize L.getD k sg0 = x at *
        clear ho hb hqn
        go_wp2_with fail
        refine HC.out.mono ?_
        rintro e w1 ⟨rfl, hb1⟩
        have B1 := Lib.hid (HBB.out.trans (hb1.mono HBB.out.size))
        have O1 := Lib.hid ((own_below HO.out hb1).alloc (.cells (KSig.cs x).toArray 81))
        have B2 := Lib.hid (B1.out.alloc B1.out.size (.cells (KSig.cs x).toArray 81))
        have R2 := Lib.hid (Kind.row_one (K := KSig) (w := w1) (x := x) (t := 81) HXO.out)
        have VL : Hid (k + 1 ≤ 10000000) := Lib.hid (by omega)
        have VS := Lib.hid B2.out.size
        have XL := Lib.hid (show (KSig.cs x).length = KSig.n from Sg.cs_len HXO.out)
        clear hb1
        go_wp2_with (first | ((with_reducible refine wpList_bsliceK (K := KSig) (o := ⟨some 18, .buildSlice 23 1 #[(0, .tmp 17)], _, _, _, _⟩) ?e1 (.tmp 17) ?e2 x ?e3 XL.out Tryd.underlying23 sizeSigK zeroSig nSig ?_); (case e1 => rfl); (case e2 => rfl); (case e3 => rfl)) | (at_builtin; refine wpList_append_K (K := KSig) _ rfl _ _ 23 rfl w.heap.size 81 i0 _ 36 Tryd.underlying23 hi hz0 hz1 hz2 hzl (by omega) _ k (L.take k) rfl O1.out (some ⟨w1.heap.size, 0, none⟩) 1 1 [x] rfl R2.out rfl VL.out VS.out ?_; intro v3 w3 ho3 hg3; have O3 := Lib.hid ho3; have B3 := Lib.hid (B2.out.grown hg3 B2.out.size (fun g hg => own_base O1.out hg)); obtain ⟨g13, cap13, rfl⟩ := ownsRow_succ ho3; clear ho3 hg3))
        go_roundw
        case rel => exact ⟨k + 1, q - 8, f, by omega, HZF.out, by have := HQN.out; omega, rfl, HNF.out, by rw [HTK.out]; exact O3.out, B3.out⟩
        case measure => simp only [HZF.out]; have := HQ.out; omega
      · obtain rfl : k = m := by omega
        have t1 : ¬ (8 : Int) ≤ (q : Int) := by omega
        have hT : L.take k = L := List.take_of_length_le (by rw [HLN.out]; exact Nat.le_refl _)
        rw [hT] at ho
        have hll := HLN.out
        rw [← hll] at ho
        have HO := Lib.hid ho
        clear ho hb hT hll hR
        go_wp2
        go_ret
        exact kpost_own HO.out HOK.out HBB.out
end Go.Proofs.YtnencoainacpoaaDoor

end
section
/-
  A map that a call has made, by keys of one kind, whatever the kind (arrays, structs): what it holds, what a look-up gives, what a store leaves.
-/
namespace Go.Proofs.YtnencoainacpoaaDoor
open Go.RowKit WM
set_option linter.unusedVariables false
set_option maxRecDepth 20000
theorem run_makeMap_hint {P : Program} {t a b : TypeId} (hu : P.underlying t = some (.map a b)) (q : IntKind) (n : Int) (w : World) : (Instr.makeMap t (some (.int q n))).run P w = .ok (.map (some w.heap.size)) (w.alloc (.map #[] 0)) := by
  simp [Instr.makeMap, run_underlying hu, asInt, asIntOf, Result.andThen]
/-- Values, as data: each one held as it is. -/
def heldV (v : Value) : Option (DataW Value × List MemPlace) := some (.held v, [])
/-- One kind of key. -/
structure MKey (P : Program) (α : Type) where
  t : TypeId
  v : α → Value
  ok : α → Prop
  key : ∀ {x : α}, ok x → ∃ l, keyOf P t (v x) = some l
  inj : ∀ {x y : α}, v x = v y → x = y
  law : WideMaps.KeyLaw P t
section
variable {P : Program} {α : Type} {K : MKey P α} {w w' : World} {b n : Nat} {f : α → Option Value} {z : Value}
theorem MKey.keyed (K : MKey P α) : Maps.Keyed P K.t := Maps.Keyed.of_law K.law
theorem MKey.ne {x y : α} {k l : Lit} (hx : keyOf P K.t (K.v x) = some k) (hy : keyOf P K.t (K.v y) = some l) (h : x ≠ y) : k ≠ l := by
  rintro rfl
  exact h (K.inj (K.law.inj hx hy))
/-- Block b is a map of at most n entries that holds f; z: what there is where nothing is. -/
def GMs (K : MKey P α) (w : World) (b n : Nat) (f : α → Option Value) (z : Value) : Prop :=
  ∃ D : DataW Value, w.ownsMap P K.t heldV b n D ∧ ∀ x l, keyOf P K.t (K.v x) = some l → Maps.has D l = (f x).isSome ∧ D.atKey l (.held z) = .held ((f x).getD z)
theorem GMs.lt (h : GMs K w b n f z) : b < w.heap.size := by obtain ⟨D, h, _⟩ := h; exact h.lt
theorem GMs.same (h : GMs K w b n f z) (hb : w'.heap[b]? = w.heap[b]?) : GMs K w' b n f z := by
  obtain ⟨D, ⟨es, clock, hh, r⟩, h2⟩ := h
  exact ⟨D, ⟨es, clock, hb.trans hh, r⟩, h2⟩
theorem GMs.more {m : Nat} (h : GMs K w b n f z) (hm : n ≤ m) : GMs K w b m f z := by
  obtain ⟨D, ⟨es, clock, hh, F, hs, r⟩, h2⟩ := h
  exact ⟨D, ⟨es, clock, hh, F, Nat.le_trans hs hm, r⟩, h2⟩
theorem GMs.below {B : Nat} (h : GMs K w b n f z) (hb : Below B w w') (hB : b < B) : GMs K w' b n f z := h.same (hb.block b hB)
theorem GMs.made (K : MKey P α) (w : World) (z : Value) : GMs K (w.alloc (.map #[] 0)) w.heap.size 0 (fun _ => none) z :=
  ⟨.map [], World.ownsMap_made w _ _ _, fun x l _ => ⟨rfl, Maps.atKey_of_not_has rfl _⟩⟩
theorem GMs.look (h : GMs K w b n f z) {t e : TypeId} (ht : P.underlying t = some (.map K.t e)) (hz : ∀ w, (zeroValue e).run P w = .ok z w) {x : α} (hx : K.ok x) :
    (Instr.lookup t (.map (some b)) (K.v x) true).run P w = .ok (.tuple #[(f x).getD z, .bool (f x).isSome]) w := by
  obtain ⟨D, h1, h2⟩ := h
  obtain ⟨l, hl⟩ := K.key hx
  obtain ⟨v, ps, hr, hv⟩ := h1.look_ok K.keyed ht (hz w) (zd := .held z) (zp := []) rfl hl
  rw [(h2 x l hl).2] at hv
  simp only [heldV, Option.some.injEq, Prod.mk.injEq, DataW.held.injEq] at hv
  rw [hr, (h2 x l hl).1, hv.1]
def fput [DecidableEq α] (f : α → Option Value) (x : α) (v : Value) : α → Option Value := fun y => if y = x then some v else f y
theorem GMs.store [DecidableEq α] (h : GMs K w b n f z) (hn : n < 1000000000) {t e : TypeId} (ht : P.underlying t = some (.map K.t e)) {x : α} (hx : K.ok x) (v : Value) :
    ∃ w', (Instr.mapUpdate t (.map (some b)) (K.v x) v).run P w = .ok () w' ∧ GMs K w' b (n + 1) (fput f x v) z ∧ w.grownBy w' (some b) := by
  obtain ⟨D, h1, h2⟩ := h
  obtain ⟨l, hl⟩ := K.key hx
  obtain ⟨w', hr, ho, hg⟩ := h1.update K.keyed ht (by simp only [maxLen]; omega) hl (d := .held v) (ps := []) rfl
  have hkl := K.keyed.key hl
  refine ⟨w', hr, ⟨_, ho, fun y m hm => ?_⟩, hg⟩
  unfold fput
  by_cases hy : y = x
  · subst hy
    rw [hl] at hm
    obtain rfl := Option.some.inj hm
    rw [if_pos rfl]
    exact ⟨Maps.has_put_same h1.isMap hkl _, Maps.atKey_put_same h1.isMap hkl _ _⟩
  · rw [if_neg hy]
    have hne : m ≠ l := MKey.ne hm hl hy
    rw [Maps.has_put_other hne, Maps.atKey_put_other hne]
    exact h2 y m hm
theorem wpList_mapUpdate_G [DecidableEq α] {ops : Array Oper} {rest : List Oper} {o : Oper} {a : Act} {Q : Exit → Act → World → Prop} (hgd : o.guard = none) (t : TypeId) (m x v : Operand) (hop : o.op = Op.mapUpdate t m x v)
    {e : TypeId} (ht : P.underlying t = some (.map K.t e)) (k : α) (u : Value) (hm : a.eval m = .map (some b)) (hx : a.eval x = K.v k) (hv : a.eval v = u) (h : GMs K w b n f z) (hn : n < 1000000000) (hk : K.ok k)
    (hK : ∀ w', GMs K w' b (n + 1) (fput f k u) z → w.grownBy w' (some b) → wpList P ops Q rest (a.put o.dst undef) w') : wpList P ops Q (o :: rest) a w := by
  refine wpList_plain hgd fun K' hK' => ?_
  obtain ⟨w', hrun, r1, r2⟩ := h.store hn ht hk u
  unfold Oper.wp
  simp [execOp, hop, hm, hx, hv, hrun, Result.andThen]
  exact hK' _ _ (hK w' r1 r2)
theorem GMs.len (h : GMs K w b n f z) {t e : TypeId} (ht : P.underlying t = some (.map K.t e)) (ty : TypeId) : ∃ m, (Builtin.len_ #[t] ty #[.map (some b)]).run P w = .ok (.int .i64 m) w := by
  obtain ⟨D, h1, h2⟩ := h
  exact ⟨_, h1.len ht ty⟩
end
end Go.Proofs.YtnencoainacpoaaDoor

end
section
/-
  What sign.places and Find answer. Nothing that was there is written.
-/
namespace Go.Proofs.YtnencoainacpoaaDoor
open Go.RowKit WM
set_option linter.unusedVariables false
set_option maxRecDepth 100000
def mkSig : MKey Tryd.prog Sg := { t := 81, v := KSig.v, ok := Sg.Ok, key := fun h => key_sig h, inj := fun h => sig_inj h, law := sgLaw }
theorem sgFrom_append (x y : Sg) : ∀ (xs : List Sg) (k : Nat), sgFrom x k (xs ++ [y]) = if sgFrom x k xs = -1 then (if y = x then ((k + xs.length : Nat) : Int) else -1) else sgFrom x k xs
  | [], k => by simp [sgFrom]
  | z :: zs, k => by
    by_cases h : z = x
    · have h1 : ¬ ((k : Int) = -1) := by omega
      simp [sgFrom, h, h1]
    · have := sgFrom_append x y zs (k + 1)
      simp only [List.cons_append, sgFrom, h, if_false, this, List.length_cons]
      rw [show k + 1 + zs.length = k + (zs.length + 1) by omega]
/-- Where each block is first, of the first k. -/
def sgPl (l : List Sg) (k : Nat) : Sg → Option Value := fun x => if sgFrom x 0 (l.take k) = -1 then none else some (.int .i64 (sgFrom x 0 (l.take k)))
theorem sgPl_nil (l : List Sg) : sgPl l 0 = fun _ => none := by funext x; simp [sgPl, sgFrom]
theorem sgPl_there {l : List Sg} {k : Nat} (hk : k < l.length) (h : (sgPl l k (l.getD k sg0)).isSome = true) : sgPl l (k + 1) = sgPl l k := by
  have hd : l.take (k + 1) = l.take k ++ [l.getD k sg0] := by
    rw [List.take_succ_eq_append_getElem hk, List.getD_eq_getElem?_getD, List.getElem?_eq_getElem hk]
    rfl
  generalize l.getD k sg0 = y at *
  funext x
  have h1 : ¬ sgFrom y 0 (l.take k) = -1 := fun e => by simp [sgPl, e] at h
  unfold sgPl
  rw [hd, sgFrom_append]
  by_cases hx : sgFrom x 0 (l.take k) = -1
  · have hne : ¬ y = x := fun e => h1 (by rw [e]; exact hx)
    simp [hx, hne]
  · simp [hx]
theorem sgPl_new {l : List Sg} {k : Nat} (hk : k < l.length) (h : (sgPl l k (l.getD k sg0)).isSome = false) : sgPl l (k + 1) = fput (sgPl l k) (l.getD k sg0) (.int .i64 k) := by
  have hd : l.take (k + 1) = l.take k ++ [l.getD k sg0] := by
    rw [List.take_succ_eq_append_getElem hk, List.getD_eq_getElem?_getD, List.getElem?_eq_getElem hk]
    rfl
  generalize l.getD k sg0 = y at *
  funext x
  have h1 : sgFrom y 0 (l.take k) = -1 := Classical.byContradiction fun e => by simp [sgPl, e] at h
  have hl : (l.take k).length = k := by rw [List.length_take]; omega
  unfold sgPl fput
  rw [hd, sgFrom_append, hl]
  by_cases hx : y = x
  · subst hx
    have hk1 : ¬ ((k : Int) = -1) := by omega
    simp [h1, hk1]
  · have hx' : ¬ x = y := fun e => hx e.symm
    by_cases hy : sgFrom x 0 (l.take k) = -1 <;> simp [hy, hx, hx']
theorem sgPl_all (l : List Sg) : sgPl l l.length = fun x => if sgFrom x 0 l = -1 then none else some (.int .i64 (sgFrom x 0 l)) := by unfold sgPl; rw [List.take_length]
def PlPost (l : List Sg) (w : World) (e : Ending) (w' : World) : Prop := ∃ b n, e = .returned (.map (some b)) ∧ GMs mkSig w' b n (sgPl l l.length) (.int .i64 0) ∧ Below w.heap.size w w'
theorem zeroInt (w : World) : (zeroValue 3).run Tryd.prog w = .ok (.int .i64 0) w := (zero_of_info (show (Tryd.prog.info? 3).map (fun i => (i.zero, i.size)) = some (some (.int .i64 0), 1) by kernel_rfl)).1 w
end Go.Proofs.YtnencoainacpoaaDoor

end
section
/-
  What awake of layer 10 answers. Nothing that was there is written.
-/
namespace Go.Proofs.YtnencoainacpoaaDoor
open Go.RowKit WM
set_option linter.unusedVariables false
set_option maxRecDepth 100000
def s24 : ByteArray := ⟨#[97, 98, 99, 100, 101, 102, 103, 104, 105, 106, 107, 108, 109, 110, 111, 112, 113, 114, 115, 116, 117, 118, 119, 120]⟩
def sg24 : List Sg := sgOf (nums s24)
theorem sg24_eq : sg24 = [sgOne (nums ⟨#[97, 98, 99, 100, 101, 102, 103, 104]⟩), sgOne (nums ⟨#[105, 106, 107, 108, 109, 110, 111, 112]⟩), sgOne (nums ⟨#[113, 114, 115, 116, 117, 118, 119, 120]⟩)] := rfl
theorem ne_of_wk {x y : Sg} (h : x.wk ≠ y.wk) : x ≠ y := fun e => h (by rw [e])
theorem sg24_find1 : sgFind sg24 (nums ⟨#[105, 106, 107, 108, 109, 110, 111, 112]⟩) = 1 := by
  have h1 : sgOne (nums ⟨#[97, 98, 99, 100, 101, 102, 103, 104]⟩) ≠ sgOne (nums ⟨#[105, 106, 107, 108, 109, 110, 111, 112]⟩) := ne_of_wk (show rlS _ ≠ rlS _ by decide)
  unfold sgFind
  rw [if_pos (show (nums ⟨#[105, 106, 107, 108, 109, 110, 111, 112]⟩).length = 8 from rfl), sg24_eq]
  simp only [sgFrom, if_neg h1, if_true]
  rfl
theorem sg24_find2 : sgFind sg24 (nums ⟨#[106, 107, 108, 109, 110, 111, 112, 113]⟩) = -1 := by
  have h1 : sgOne (nums ⟨#[97, 98, 99, 100, 101, 102, 103, 104]⟩) ≠ sgOne (nums ⟨#[106, 107, 108, 109, 110, 111, 112, 113]⟩) := ne_of_wk (show rlS _ ≠ rlS _ by decide)
  have h2 : sgOne (nums ⟨#[105, 106, 107, 108, 109, 110, 111, 112]⟩) ≠ sgOne (nums ⟨#[106, 107, 108, 109, 110, 111, 112, 113]⟩) := ne_of_wk (show rlS _ ≠ rlS _ by decide)
  have h3 : sgOne (nums ⟨#[113, 114, 115, 116, 117, 118, 119, 120]⟩) ≠ sgOne (nums ⟨#[106, 107, 108, 109, 110, 111, 112, 113]⟩) := ne_of_wk (show rlS _ ≠ rlS _ by decide)
  unfold sgFind
  rw [if_pos (show (nums ⟨#[106, 107, 108, 109, 110, 111, 112, 113]⟩).length = 8 from rfl), sg24_eq]
  simp only [sgFrom, if_neg h1, if_neg h2, if_neg h3]
end Go.Proofs.YtnencoainacpoaaDoor

end
