import Derived.Test.YtcmknbdeafcknaaGreatDoorCaRd2
import Derived.Test.YtcmknbdeafcknaaGreatDoorBkFind
import Derived.Laws.Cover3
/-
  The reader of package canon: what id, and list of fields, answer, or that they panic.
-/
namespace Go.Proofs.YtcmknbdeafcknaaGreatDoor
open Go.RowKit WM
set_option linter.unusedVariables false
set_option maxRecDepth 20000
/-! ### a name -/
theorem zeroID (w : World) : (zeroValue 26).run Tryz.prog w = .ok (.agg (bvals z16)) w := (zero_of_info (show (Tryz.prog.info? 26).map (fun i => (i.zero, i.size)) = some (some (.agg (bvals z16)), 16) by kernel_rfl)).1 w
theorem bvals_one' (l : List Int) : (bvals l).all (·.oneCell') = true := by
  rw [Array.all_eq_true_iff_forall_mem]
  intro u hu
  simp only [bvals, List.mem_toArray, List.mem_map] at hu
  obtain ⟨x, _, rfl⟩ := hu
  rfl
theorem IdAt.kept {w w' : World} {b q : Nat} {z : List Int} (h : IdAt w b z) (hg : w.grownBy w' (some q)) (hne : b ≠ q) : IdAt w' b z := ⟨h.1, (hg.block b h.lt (fun e => hne (Option.some.inj e))).trans h.2⟩
theorem wpList_store_oldid {w : World} {ops : Array Oper} {rest : List Oper} {o : Oper} {a : Act} {Q : Exit → Act → World → Prop} (hgd : o.guard = none) (p q : Operand) (hop : o.op = .store 26 p q)
    (g : Nat) (z : List Int) (hb : IdAt w g z) (hx : a.eval p = .pointer (some ⟨g, 0, none⟩)) (z' : List Int) (hy : a.eval q = .agg (bvals z')) (hz : z'.length = 16)
    (hK : ∀ w', w.grownBy w' (some g) → IdAt w' g z' → wpList Tryz.prog ops Q rest (a.put o.dst undef) w') : wpList Tryz.prog ops Q (o :: rest) a w := by
  refine wpList_store_row hgd 26 p q hop g (bvals z') hx hy 26 _ hb.2 (by rw [bvals_size, hz]; exact sizeID16) (by rw [bvals_size, bvals_size, hz, hb.1]) (bvals_one' _) ?_
  exact hK _ (grownBy_setRow w g _) ⟨hz, setRow_heap w g _ _ _ _ hb.2⟩
theorem wpList_store_newid {w : World} {ops : Array Oper} {rest : List Oper} {o : Oper} {a : Act} {Q : Exit → Act → World → Prop} (hgd : o.guard = none) (p q : Operand) (hop : o.op = .store 26 p q)
    (b : Nat) (hb : b = w.heap.size) (hx : a.eval p = .pointer (some ⟨b, 0, none⟩)) (z : List Int) (hy : a.eval q = .agg (bvals z)) (hz : z.length = 16)
    (hK : wpList Tryz.prog ops Q rest (a.put o.dst undef) (w.alloc (.cells (bvals z) 26))) : wpList Tryz.prog ops Q (o :: rest) a (w.alloc (.cells (bvals z16) 26)) := by
  subst hb
  refine wpList_store_row hgd 26 p q hop w.heap.size (bvals z) hx hy 26 _ (heap_alloc_new w _) (by rw [bvals_size, hz]; exact sizeID16) (by rw [bvals_size, bvals_size, hz]; rfl) (bvals_one' _) ?_
  rw [World.setRow_alloc_new w _ _ _]
  exact hK
/-- Sixteen bytes of a row, as a name. -/
theorem load_id_byt {w : World} {b off : Nat} {z : List Int} (hz : z.length = 16) (hc : ∀ i, i < z.length → w.cell? ⟨b, off + i, none⟩ = some (.int .u8 (z.getD i 0))) : (loadVar 26 ⟨b, off, none⟩).run Tryz.prog w = .ok (.agg (bvals z)) w := by
  have hl : (loadCells ⟨b, off, none⟩ 16).run Tryz.prog w = .ok (bvals z) w := by
    have h1 := run_loadCells_list (P := Tryz.prog) w ⟨b, off, none⟩ (z.map (Value.int .u8)) (fun j u hu => by
      have hj : j < z.length := by have := (List.getElem?_eq_some_iff.1 hu).1; simpa using this
      rw [Addr.add_lit, hc j hj]
      rw [List.getElem?_map, List.getElem?_eq_getElem hj] at hu
      simpa [List.getD, List.getElem?_eq_getElem hj] using hu)
    rw [List.length_map, hz] at h1
    exact h1
  have hs := sizeID
  cases hq : Tryz.prog.info? 26 with
  | none => simp [hq] at hs
  | some i =>
    have hs : i.size = 16 := by simpa [hq] using hs
    have hagg : (isAgg 26).run Tryz.prog w = .ok true w := by
      unfold isAgg
      rw [Sem.run_bind, run_underlying Tryz.underlying26 w]
      simp
    simp [loadVar, Sem.run_bind, hagg, sizeOf, typeInfo, hq, hs, hl]
theorem res_id {fn : Func} {p : Tmp} (h : fn.results = #[.cell p 26]) {tmps : Array Value} {w : World} {b : Nat} {z : List Int} (hp : tmps.getD p undef = .pointer (some ⟨b, 0, none⟩)) (hs : IdAt w b z) :
    (results fn tmps).run Tryz.prog w = .ok (.agg (bvals z)) w := by
  have hp' : tmps[p]?.getD undef = .pointer (some ⟨b, 0, none⟩) := by simpa using hp
  simp [results, h, hp', asAddr, load_arr16 hs]
def RIdPost (w : World) (q : Nat) (zs : List Int) (e : Ending) (w' : World) : Prop :=
  if 16 ≤ zs.length then e = .returned (.agg (bvals (zs.take 16))) ∧ RdAt w' q (zs.drop 16) ∧ w.grownBy w' (some q) else e = .panicked pan ∧ w.grownBy w' (some q)
set_option maxHeartbeats 1000000 in
theorem rid_any (q : Nat) (zs : List Int) (w : World) (h : RdAt w q zs) :
    Calls Tryz.prog 97 #[.pointer (some ⟨q, 0, none⟩)] w (RIdPost w q zs) := by
  have HQ := Lib.hid h.lt
  have HB := bytes_any q 16 zs _ (h.alloc (.cells (bvals z16) 26)) (by omega)
  have G1 := Lib.hid (gq_alloc (gq_refl q w) (.cells (bvals z16) 26))
  have I1 := Lib.hid (IdAt.new w z16_len)
  have hz := zeroID
  unfold BytesPost at HB
  by_cases hl : 16 ≤ zs.length
  · have HV : Hid (∀ e w', e = .returned (.agg (bvals (zs.take 16))) ∧ RdAt w' q (zs.drop 16) ∧ w.grownBy w' (some q) → RIdPost w q zs e w') := Lib.hid (fun e w' h => by unfold RIdPost; rw [if_pos hl]; exact h)
    have HT := Lib.hid (show (zs.take 16).length = 16 by rw [List.length_take]; omega)
    simp only [hl, if_true] at HB
    have HB := Lib.hid HB
    clear h hl
    generalize zs.take 16 = z at *
    generalize bvals z16 = Z at *
    go_enter Tryz.func97, Tryz.ntmps97
    go_wp2_with fail
    refine HB.out.mono ?_
    rintro e w1 ⟨A, c, rfl, hby, hkc, hcm, hA, hr, hg⟩
    obtain ⟨b, off, rfl, hbq, hc⟩ := hby (fun e => by have := HT.out; rw [e] at this; simp at this)
    have LI := Lib.hid (load_id_byt HT.out hc)
    have I2 := Lib.hid (I1.out.kept hg (by have := HQ.out; omega))
    have HR := Lib.hid hr
    have HG := Lib.hid (grown_trans G1.out hg)
    have hat : ∀ w, (Instr.arrayAt 26 (.slice (some ⟨b, off, none⟩) 16 c)).run Tryz.prog w = .ok (.pointer (some ⟨b, off, none⟩)) w := fun w => run_arrayAt w 26 _ 16 _ 16 c Tryz.underlying26 (by omega)
    clear hby hkc hcm hA hr hg hc
    go_wp2_with (first | ((with_reducible refine wpList_load_by16 (o := ⟨some 6, .load 26 (.tmp 5), _, _, _, _⟩) ?e1 26 (.tmp 5) ?e2 ⟨b, off, none⟩ ?e3 _ LI.out ?_); (case e1 => rfl); (case e2 => rfl); (case e3 => rfl)) | ((with_reducible refine wpList_store_oldid (o := ⟨none, .store 26 (.tmp 2) (.tmp 6), _, _, _, _⟩) ?e1 (.tmp 2) (.tmp 6) ?e2 w.heap.size _ I2.out ?e3 z ?e4 HT.out ?_); (case e1 => rfl); (case e2 => rfl); (case e3 => rfl); (case e4 => rfl); intro w2 hg2 hx2; have G9 := Lib.hid hg2; have X9 := Lib.hid hx2; clear hg2 hx2))
    refine bodyPost_ret (v := .agg (bvals z)) ?_ rfl ?_
    · exact res_id Tryz.results97 rfl X9.out
    · exact HV.out _ _ ⟨rfl, HR.out.kept G9.out (fun k e => by have := Option.some.inj e; have := HQ.out; omega), grown_new HG.out G9.out (fun k e => by have := Option.some.inj e; omega)⟩
  · have HV : Hid (∀ e w', e = .panicked pan ∧ w.grownBy w' (some q) → RIdPost w q zs e w') := Lib.hid (fun e w' h => by unfold RIdPost; rw [if_neg hl]; exact h)
    simp only [hl, if_false] at HB
    have HB := Lib.hid HB
    clear h hl
    generalize bvals z16 = Z at *
    go_enter Tryz.func97, Tryz.ntmps97
    go_wp2_with fail
    refine HB.out.mono ?_
    rintro e w1 ⟨rfl, hg⟩
    go_wp2
    exact ⟨rfl, HV.out _ _ ⟨rfl, grown_trans G1.out hg⟩⟩
/-! ### as many as there are -/
section
variable {α : Type}
def many (p : List Int → Option (α × List Int)) : Nat → List Int → Option (List α × List Int)
  | 0, zs => some ([], zs)
  | k + 1, zs => (p zs).bind fun a => (many p k a.2).map fun x => (a.1 :: x.1, x.2)
def lst (p : List Int → Option (α × List Int)) (most : Int) (zs : List Int) : Option (List α × List Int) := (cnt most zs).bind fun x => many p x.1 x.2
theorem many_none {p : List Int → Option (α × List Int)} {k : Nat} {zs : List Int} (h : p zs = none) : many p (k + 1) zs = none := by rw [many, h]; rfl
theorem many_some {p : List Int → Option (α × List Int)} {k : Nat} {zs ys : List Int} {a : α} (h : p zs = some (a, ys)) : many p (k + 1) zs = (many p k ys).map fun x => (a :: x.1, x.2) := by rw [many, h]; rfl
theorem many_len {p : List Int → Option (α × List Int)} : ∀ {k : Nat} {zs ys : List Int} {l : List α}, many p k zs = some (l, ys) → l.length = k
  | 0, zs, ys, l, h => by rw [many] at h; cases h; rfl
  | k + 1, zs, ys, l, h => by
    rw [many] at h
    cases hp : p zs with
    | none => rw [hp] at h; cases h
    | some a =>
      rw [hp, Option.bind_some] at h
      cases hm : many p k a.2 with
      | none => rw [hm] at h; cases h
      | some x =>
        rw [hm] at h
        cases h
        rw [List.length_cons, many_len (zs := a.2) (ys := x.2) (l := x.1) hm]
end
/-- A row of fields lies in a block of fields. -/
def FTag (w : World) (A : Option Addr) : Prop := ∀ p, A = some p → ∃ cur, w.heap[p.block]? = some (.cells cur 59)
theorem FTag.own {w : World} {base n c size : Nat} {A : Option Addr} {xs : List Value} (h : w.ownsRow base 59 size (.slice A n c) n xs) : FTag w A := by
  intro p e
  rcases h.2 with ⟨h1, _⟩ | ⟨g, cap, cur, h1, _, hg, _⟩
  · simp only [Value.slice.injEq] at h1
    rw [h1.1] at e; cases e
  · simp only [Value.slice.injEq] at h1
    rw [h1.1] at e
    cases e
    exact ⟨cur, hg⟩
def LFPost (w : World) (q : Nat) (r : Option (List Fld × List Int)) (e : Ending) (w' : World) : Prop :=
  match r with
  | some (fs, ys) => ∃ A c, e = .returned (.slice A fs.length c) ∧ FsAt w' A c fs ∧ FTag w' A ∧ RdAt w' q ys ∧ w.grownBy w' (some q)
  | none => e = .panicked pan ∧ w.grownBy w' (some q)
theorem one_fs (w : World) (f : Fld) : FsAt (w.alloc (.cells #[.int .i64 f.no, .int .i64 f.c.n, .int .i64 f.c.r, .string f.c.s] 59)) (some ⟨w.heap.size, 0, none⟩) 1 [f] := by
  have h := FlAt.new w f
  refine ⟨Nat.le_refl _, by decide, (fun h => by cases h), fun _ => ⟨_, 0, rfl, h.lt, fun i hi => ?_⟩⟩
  obtain rfl : i = 0 := by simpa using hi
  exact ⟨h.c0, h.c1, h.c2, h.c3⟩
theorem own_kept {w w' : World} {base size n q : Nat} {e : TypeId} {v : Value} {xs : List Value} (h : w.ownsRow base e size v n xs) (hg : w.grownBy w' (some q)) (hq : q < base) : w'.ownsRow base e size v n xs := by
  refine h.kept hg ?_
  cases ho : v.ownBlock with
  | none => exact .inl rfl
  | some g => exact .inr (fun e => by have := own_base h ho; have := Option.some.inj e; omega)
set_option maxHeartbeats 2000000 in
theorem listF_any (q : Nat) (zs : List Int) (w : World) (h : RdAt w q zs) :
    Calls Tryz.prog 99 #[.pointer (some ⟨q, 0, none⟩), .int .i64 8, .func (.func 100) #[.pointer (some ⟨q, 0, none⟩)] #[]] w (LFPost w q (lst pfl 8 zs)) := by
  have HQ := Lib.hid h.lt
  have HC := count_any q 8 zs w h (by omega)
  obtain ⟨i0, hi, hz0, hz1, hz2⟩ := info_parts infoFld
  cases hc : cnt 8 zs with
  | none =>
    have HV := Lib.hid (show lst pfl 8 zs = none by unfold lst; rw [hc]; rfl)
    rw [show ((8 : Nat) : Int) = 8 from rfl, hc] at HC
    unfold CountPost at HC
    have HC := Lib.hid HC
    clear h hc
    go_enter Tryz.func99, Tryz.ntmps99
    go_wp2_with fail
    refine HC.out.mono ?_
    rintro e w1 ⟨rfl, hg⟩
    go_wp2
    refine ⟨rfl, ?_⟩
    rw [HV.out]
    exact ⟨rfl, hg⟩
  | some p =>
    obtain ⟨n, zs1⟩ := p
    have hn8 : n ≤ 8 := by
      unfold cnt at hc
      split at hc
      · cases hc
      · split at hc
        · cases hc; omega
        · cases hc
    have HV := Lib.hid (show lst pfl 8 zs = many pfl n zs1 by unfold lst; rw [hc]; rfl)
    rw [show ((8 : Nat) : Int) = 8 from rfl, hc] at HC
    unfold CountPost at HC
    dsimp only at HC
    have HC := Lib.hid HC
    clear h hc
    go_enter Tryz.func99, Tryz.ntmps99
    go_wp2_with fail
    refine HC.out.mono ?_
    rintro e w1 ⟨rfl, hr, hg⟩
    have HR := Lib.hid hr
    have HG := Lib.hid hg
    clear hr hg HC
    go_wp2
    go_loopw [7, 11] (fun v i wr => ∃ (k : Nat) (fs : List Fld) (ys : List Int), k ≤ n ∧ i = .int .i64 k ∧ fs.length = k ∧ wr.ownsRow w.heap.size 59 4 v k (fs.flatMap Fld.cs) ∧ RdAt wr q ys ∧ w.grownBy wr (some q) ∧ many pfl n zs1 = (many pfl (n - k) ys).map (fun x => (fs ++ x.1, x.2))) (fun _ i _ => n - (intOf i).toNat)
    case atStart => exact ⟨0, [], zs1, Nat.zero_le _, rfl, rfl, World.ownsRow_nil _ _ _ _, HR.out, HG.out, by simp⟩
    case round =>
      obtain ⟨k, fs, ys, hk, rfl, hfl, ho, hr, hg, hm⟩ := hrel
      by_cases hlt : k < n
      · have HF := rfield_any q ys wr hr
        have HO := Lib.hid ho
        have HGG := Lib.hid hg
        have HFL := Lib.hid hfl
        obtain ⟨m, hmn⟩ : ∃ m, n - k = m + 1 := ⟨n - k - 1, by omega⟩
        rw [hmn] at hm
        cases hp : pfl ys with
        | none =>
          rw [many_none hp, Option.map_none] at hm
          have HM := Lib.hid hm
          rw [hp] at HF
          unfold RFlPost at HF
          have HF := Lib.hid HF
          clear ho hr hg hm hp hmn hfl
          go_wp2_with fail
          refine HF.out.mono ?_
          rintro e w2 ⟨rfl, hg⟩
          go_wp2
          refine ⟨rfl, ?_⟩
          rw [HV.out, HM.out]
          exact ⟨rfl, grown_trans HGG.out hg⟩
        | some p =>
          obtain ⟨f, rs⟩ := p
          rw [many_some hp] at hm
          have HM := Lib.hid (show many pfl n zs1 = (many pfl (n - (k + 1)) rs).map (fun x => ((fs ++ [f]) ++ x.1, x.2)) by
            rw [hm, Option.map_map, show n - (k + 1) = m by omega]
            congr 1
            funext x
            simp)
          rw [hp] at HF
          unfold RFlPost Fld.v at HF
          dsimp only at HF
          have HF := Lib.hid HF
          clear ho hr hg hm hp hmn hfl
          go_wp2_with fail
          refine HF.out.mono ?_
          rintro e w2 ⟨rfl, hr, hg⟩
          have R2 := Lib.hid (hr.alloc (.cells #[.int .i64 f.no, .int .i64 f.c.n, .int .i64 f.c.r, .string f.c.s] 59))
          have G2 := Lib.hid (gq_alloc (grown_trans HGG.out hg) (.cells #[.int .i64 f.no, .int .i64 f.c.n, .int .i64 f.c.r, .string f.c.s] 59))
          have O2 := Lib.hid ((own_kept HO.out hg HQ.out).alloc (.cells #[.int .i64 f.no, .int .i64 f.c.n, .int .i64 f.c.r, .string f.c.s] 59))
          have F2 := Lib.hid (one_fs w2 f)
          clear hr hg
          go_wp2_with (at_builtin; refine wpList_append_fld _ rfl _ _ 31 rfl w.heap.size 59 i0 Tryz.underlying31 hi hz0 hz1 hz2 _ k fs rfl O2.out (some ⟨w2.heap.size, 0, none⟩) 1 1 [f] rfl F2.out rfl (by omega) G2.out.size ?_; intro v3 w3 ho3 hg3; have O3 := Lib.hid ho3; have G3 := Lib.hid hg3; clear ho3 hg3)
          go_roundw
          case rel => exact ⟨k + 1, fs ++ [f], rs, by omega, by go_num, by rw [List.length_append, HFL.out]; rfl, O3.out, R2.out.kept G3.out (fun g e => by have := own_base O2.out e; have := HQ.out; omega), grown_new G2.out G3.out (fun g e => own_base O2.out e), HM.out⟩
          case measure => simp [intOf]; omega
      · have hkn : k = n := by omega
        subst hkn
        have t1 : ¬ (k : Int) < (k : Int) := by omega
        rw [Nat.sub_self, many, Option.map_some, List.append_nil] at hm
        have HM := Lib.hid hm
        have HO := Lib.hid ho
        have HR2 := Lib.hid hr
        have HGG := Lib.hid hg
        have HFL := Lib.hid hfl
        clear ho hr hg hm hfl
        go_wp2
        go_ret
        rw [HV.out, HM.out]
        obtain ⟨A, c, rfl⟩ := own_slice HO.out
        have hl := HFL.out
        subst hl
        exact ⟨A, c, rfl, FsAt.own HO.out, FTag.own HO.out, HR2.out, HGG.out⟩
end Go.Proofs.YtcmknbdeafcknaaGreatDoor

