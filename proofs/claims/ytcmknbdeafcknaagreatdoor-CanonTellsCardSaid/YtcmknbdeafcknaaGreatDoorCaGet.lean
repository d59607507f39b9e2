import Derived.Test.YtcmknbdeafcknaaGreatDoorGCaRd
import Derived.Test.YtcmknbdeafcknaaGreatDoorGBkM
import Derived.Test.YtcmknbdeafcknaaGreatDoorBkMay
import Derived.Defers
import Derived.Recover
/-
  What list of records, and canon.Get, answer. Nothing that was there is written.
-/
namespace Go.Proofs.YtcmknbdeafcknaaGreatDoor
open Go.RowKit WM
set_option linter.unusedVariables false
set_option maxRecDepth 20000
theorem cnt_le {most : Int} {zs ys : List Int} {n : Nat} (h : cnt most zs = some (n, ys)) : (n : Int) ≤ most ∨ n = 0 := by
  unfold cnt at h
  split at h
  · cases h
  · split at h
    · cases h; omega
    · cases h
def LRPost (w : World) (q : Nat) (r : Option (List Rc × List Int)) (e : Ending) (w' : World) : Prop :=
  match r with
  | some (rs, ys) => ∃ d : Bk, e = .returned d.s ∧ d.rs = rs ∧ BkAt w' d ∧ RdAt w' q ys ∧ w.grownBy w' (some q)
  | none => e = .panicked pan ∧ w.grownBy w' (some q)
theorem one_rs {w : World} {x : RcA} (h : RvAt (w.alloc (.cells x.cells 33)) x) : RsAt (w.alloc (.cells x.cells 33)) (some ⟨w.heap.size, 0, none⟩) 1 [x] := by
  have hx := XAt.new (x := x) w h.len
  refine ⟨Nat.le_refl _, by decide, (fun h => by cases h), fun _ => ⟨_, 0, rfl, hx.lt, fun i hi => ?_⟩, fun y hy => ?_⟩
  · obtain rfl : i = 0 := by simpa using hi
    exact hx.rec
  · rw [List.mem_singleton.1 hy]; exact h
set_option maxHeartbeats 2000000 in
theorem listR_any (q : Nat) (zs : List Int) (w : World) (h : RdAt w q zs) :
    Calls Tryz.prog 63 #[.pointer (some ⟨q, 0, none⟩), .int .i64 10, .func (.func 64) #[.pointer (some ⟨q, 0, none⟩)] #[]] w (LRPost w q (lst prc 10 zs)) := by
  have HQ := Lib.hid h.lt
  have HC := count_any q 10 zs w h (by omega)
  obtain ⟨i0, hi, hz0, hz1, hz2⟩ := info_parts infoRec
  cases hc : cnt 10 zs with
  | none =>
    have HV := Lib.hid (show lst prc 10 zs = none by unfold lst; rw [hc]; rfl)
    rw [show ((10 : Nat) : Int) = 10 from rfl, hc] at HC
    unfold CountPost at HC
    have HC := Lib.hid HC
    clear h hc
    go_enter Tryz.func63, Tryz.ntmps63
    go_wp2_with fail
    refine HC.out.mono ?_
    rintro e w1 ⟨rfl, hg⟩
    go_wp2
    refine ⟨rfl, ?_⟩
    rw [HV.out]
    exact ⟨rfl, hg⟩
  | some p =>
    obtain ⟨n, zs1⟩ := p
    have hn8 : n ≤ 10 := by have := cnt_le hc; omega
    have HV := Lib.hid (show lst prc 10 zs = many prc n zs1 by unfold lst; rw [hc]; rfl)
    rw [show ((10 : Nat) : Int) = 10 from rfl, hc] at HC
    unfold CountPost at HC
    dsimp only at HC
    have HC := Lib.hid HC
    clear h hc
    go_enter Tryz.func63, Tryz.ntmps63
    go_wp2_with fail
    refine HC.out.mono ?_
    rintro e w1 ⟨rfl, hr, hg⟩
    have HR := Lib.hid hr
    have HG := Lib.hid hg
    clear hr hg HC
    go_wp2
    go_loopw [7, 11] (fun v i wr => ∃ (k : Nat) (xs : List RcA) (ys : List Int), k ≤ n ∧ i = .int .i64 k ∧ xs.length = k ∧ wr.ownsRow w.heap.size 33 19 v k (xs.flatMap RcA.cs) ∧ (∀ x ∈ xs, RvAt wr x ∧ FTag wr x.A) ∧ RdAt wr q ys ∧ w.grownBy wr (some q) ∧ many prc n zs1 = (many prc (n - k) ys).map (fun x => (xs.map (·.R) ++ x.1, x.2))) (fun _ i _ => n - (intOf i).toNat)
    case atStart => exact ⟨0, [], zs1, Nat.zero_le _, rfl, rfl, World.ownsRow_nil _ _ _ _, (fun x hx => by cases hx), HR.out, HG.out, by simp⟩
    case round =>
      obtain ⟨k, xs, ys, hk, rfl, hfl, ho, hv, hr, hg, hm⟩ := hrel
      by_cases hlt : k < n
      · have HF := rrec_any q ys wr hr
        have HO := Lib.hid ho
        have HGG := Lib.hid hg
        have HFL := Lib.hid hfl
        have HVV := Lib.hid hv
        have HTG := Lib.hid hr.tag
        obtain ⟨m, hmn⟩ : ∃ m, n - k = m + 1 := ⟨n - k - 1, by omega⟩
        rw [hmn] at hm
        cases hp : prc ys with
        | none =>
          rw [many_none hp, Option.map_none] at hm
          have HM := Lib.hid hm
          rw [hp] at HF
          unfold RRcPost at HF
          have HF := Lib.hid HF
          clear ho hr hg hm hp hmn hfl hv
          go_wp2_with fail
          refine HF.out.mono ?_
          rintro e w2 ⟨rfl, hg⟩
          go_wp2
          refine ⟨rfl, ?_⟩
          rw [HV.out, HM.out]
          exact ⟨rfl, grown_trans HGG.out hg⟩
        | some p =>
          obtain ⟨R, rs⟩ := p
          rw [many_some hp] at hm
          have HM := Lib.hid (show many prc n zs1 = (many prc (n - (k + 1)) rs).map (fun x => ((xs.map (·.R) ++ [R]) ++ x.1, x.2)) by
            rw [hm, Option.map_map, show n - (k + 1) = m by omega]
            congr 1
            funext x
            simp)
          rw [hp] at HF
          unfold RRcPost at HF
          dsimp only at HF
          have HF := Lib.hid HF
          clear ho hr hg hm hp hmn hfl hv
          go_wp2_with fail
          refine HF.out.mono ?_
          rintro e w2 ⟨x, rfl, hxR, hxv, hxt, hr, hg⟩
          have R2 := Lib.hid (hr.alloc (.cells x.cells 33))
          have G2 := Lib.hid (gq_alloc (grown_trans HGG.out hg) (.cells x.cells 33))
          have O2 := Lib.hid ((own_kept HO.out hg HQ.out).alloc (.cells x.cells 33))
          have V2 : Hid (∀ y ∈ xs ++ [x], RvAt (w2.alloc (.cells x.cells 33)) y ∧ FTag (w2.alloc (.cells x.cells 33)) y.A) := Lib.hid (fun y hy => by
            have h1 : RvAt w2 y ∧ FTag w2 y.A := by
              rcases List.mem_append.1 hy with hy | hy
              · exact ⟨(HVV.out y hy).1.kept_tag (HVV.out y hy).2 hg HTG.out, (HVV.out y hy).2.kept hg HTG.out⟩
              · rw [List.mem_singleton.1 hy]; exact ⟨hxv, hxt⟩
            have hg' := World.grownBy_alloc w2 (.cells x.cells 33) none
            exact ⟨h1.1.kept_tag h1.2 hg' (fun g e => by cases e), h1.2.kept hg' (fun g e => by cases e)⟩)
          have F2 := Lib.hid (one_rs (V2.out x (by simp)).1)
          have HXR := Lib.hid hxR
          have HXL := Lib.hid hxv.len
          clear hr hg hxv hxt hxR
          go_wp2_with (first | ((with_reducible refine wpList_bslice (o := ⟨some 16, .buildSlice 22 1 #[(0, .tmp 15)], _, _, _, _⟩) ?e1 (.tmp 15) ?e2 x ?e3 HXL.out ?_); (case e1 => rfl); (case e2 => rfl); (case e3 => rfl)) | (at_builtin; refine wpList_append_rec _ rfl _ _ 22 rfl w.heap.size 33 i0 Tryz.underlying22 hi hz0 hz1 hz2 _ k xs rfl O2.out (some ⟨w2.heap.size, 0, none⟩) 1 1 [x] rfl F2.out rfl (by omega) G2.out.size ?_; intro v3 w3 ho3 hg3; have O3 := Lib.hid ho3; have G3 := Lib.hid hg3; clear ho3 hg3))
          go_roundw
          case rel => exact ⟨k + 1, xs ++ [x], rs, by omega, by go_num, by rw [List.length_append, HFL.out]; rfl, O3.out, (fun y hy => ⟨(V2.out y hy).1.kept_tag (V2.out y hy).2 G3.out (own_tag O2.out (by decide)), (V2.out y hy).2.kept G3.out (own_tag O2.out (by decide))⟩), R2.out.kept G3.out (fun g e => by have := own_base O2.out e; have := HQ.out; omega), grown_new G2.out G3.out (fun g e => own_base O2.out e), by rw [List.map_append, List.map_singleton, HXR.out]; exact HM.out⟩
          case measure => simp [intOf]; omega
      · have hkn : k = n := by omega
        subst hkn
        have t1 : ¬ (k : Int) < (k : Int) := by omega
        rw [Nat.sub_self, many, Option.map_some, List.append_nil] at hm
        have HM := Lib.hid hm
        have HO := Lib.hid ho
        have HR2 := Lib.hid hr
        have HGG := Lib.hid hg
        have HFL := Lib.hid hfl
        have HVV := Lib.hid hv
        clear ho hr hg hm hfl hv
        go_wp2
        go_ret
        rw [HV.out, HM.out]
        obtain ⟨A, c, rfl⟩ := own_slice HO.out
        have hl := HFL.out
        subst hl
        exact ⟨⟨xs, A, c⟩, rfl, rfl, RsAt.own HO.out (fun x hx => (HVV.out x hx).1), HR2.out, HGG.out⟩
/-! ### the deferred closure -/
theorem build_bk0 (w : World) : (Instr.build 24 #[]).run Tryz.prog w = .ok (.agg #[.slice none 0 0]) w := run_build w _ _ _ (show Tryz.prog.built 24 [] = some #[.slice none 0 0] by kernel_rfl)
theorem catch_yes (p r : Nat) (u v : Value) (ty : TypeId) (pv : Value) (older : List PanicEntry) (w : World) (hp : w.cell? ⟨p, 0, none⟩ = some u) (hpf : w.frozen? ⟨p, 0, none⟩ = false) (hr : ∀ x : Value, (w.setCell ⟨p, 0, none⟩ x).cell? ⟨r, 0, none⟩ = some v) (hrf : ∀ x : Value, (w.setCell ⟨p, 0, none⟩ x).frozen? ⟨r, 0, none⟩ = false) :
    CallsD Tryz.prog 62 #[.pointer (some ⟨p, 0, none⟩), .pointer (some ⟨r, 0, none⟩)] (.panicking ({ v := .iface ty pv, recovered := false } :: older)) w fun e u' w' =>
      e = .returned (.tuple #[]) ∧ u' = .panicking ({ v := .iface ty pv, recovered := true } :: older) ∧ w' = (w.setCell ⟨p, 0, none⟩ (.slice none 0 0)).setCell ⟨r, 0, none⟩ (.bool false) := by
  refine callsD_of_wpS Tryz.func62 rfl fun c₀ cs hu => ?_
  apply wpS_seq
  apply wpS_region
  simp [wpOpsS, go_sem, recoverD, hu, Tryz.ntmps62, Exit.thenS]
  refine wpS_cond (t := true) (by simp [Act.eval, Array.replicate]) ?_
  simp only [if_true]
  apply wpS_region
  have hr' := hr (.slice none 0 0)
  have hrf' := hrf (.slice none 0 0)
  simp [wpOpsS, go_sem, hp, hpf, hr', hrf', bodyPostS, results, Tryz.results62]
theorem catch_no (p r : Nat) (w : World) :
    CallsD Tryz.prog 62 #[.pointer (some ⟨p, 0, none⟩), .pointer (some ⟨r, 0, none⟩)] .returning w fun e u' w' => e = .returned (.tuple #[]) ∧ u' = .returning ∧ w' = w := by
  refine callsD_of_wpS Tryz.func62 rfl fun c₀ cs hu => ?_
  apply wpS_seq
  apply wpS_region
  simp [wpOpsS, go_sem, recoverD, hu, Tryz.ntmps62, Exit.thenS]
  refine wpS_cond (t := false) (by simp [Act.eval, Array.replicate]) ?_
  simp only [Bool.false_eq_true, if_false]
  refine wpS_of_wp (wp_skip ?_)
  cases c₀
  simp_all [bodyPostS, results, Tryz.results62]
/-! ### Get -/
def bget (zs : List Int) : Option (List Rc) := match lst prc 10 zs with | none => none | some (rs, ys) => if ys.length = 0 ∧ bmay rs = true then some rs else none
def GetPost (w : World) (r : Option (List Rc)) (e : Ending) (w' : World) : Prop :=
  ∃ d : Bk, e = .returned (.tuple #[.agg #[.slice d.A d.xs.length d.c], .bool r.isSome]) ∧ d.rs = r.getD [] ∧ BkAt w' d ∧ Below w.heap.size w w'
/-- Block b holds a truth. -/
def BlAt (w : World) (b : Nat) (v : Bool) : Prop := w.heap[b]? = some (.cells #[.bool v] 4)
theorem load_bl {w : World} {b : Nat} {v : Bool} (h : BlAt w b v) : (loadVar 4 ⟨b, 0, none⟩).run Tryz.prog w = .ok (.bool v) w := by
  have h0 : w.cell? ⟨b, 0, none⟩ = some (.bool v) := by rw [cell_of_row _ _ _ _ _ _ h]; rfl
  go_simp
theorem res_get {fn : Func} {p r : Tmp} (h : fn.results = #[.cell p 24, .cell r 4]) {tmps : Array Value} {w : World} {b c : Nat} {s : Value} {v : Bool} (hp : tmps.getD p undef = .pointer (some ⟨b, 0, none⟩)) (hr : tmps.getD r undef = .pointer (some ⟨c, 0, none⟩)) (hs : BoAt w b s) (hb : BlAt w c v) :
    (results fn tmps).run Tryz.prog w = .ok (.tuple #[.agg #[s], .bool v]) w := by
  have hp' : tmps[p]?.getD undef = .pointer (some ⟨b, 0, none⟩) := by simpa using hp
  have hr' : tmps[r]?.getD undef = .pointer (some ⟨c, 0, none⟩) := by simpa using hr
  simp [results, h, hp', hr', asAddr, hs.load, load_bl hb]
theorem BkAt.kept_bl {w w' : World} {d : Bk} {b : Nat} {v : Bool} (h : BkAt w d) (hg : w.grownBy w' (some b)) (hx : BlAt w b v) : BkAt w' d := by
  obtain ⟨h1, h2, h3, h4, h5⟩ := h
  refine ⟨h1, h2, h3, fun h0 => ?_, fun x hxx => ⟨(h5 x hxx).1, (h5 x hxx).2.kept' hg fun off h0 e => ?_⟩⟩
  · obtain ⟨b', off, e, hlt, hc⟩ := h4 h0
    have hn : b' ≠ b := by
      rintro rfl
      have h6 := hc 0 h0
      have h7 := h6.2 1 (by omega)
      rw [cell_of_row _ _ _ _ _ _ hx, List.getElem?_eq_getElem (by rw [cs_len h6.1]; omega)] at h7
      simp at h7
    exact ⟨b', off, e, Nat.lt_of_lt_of_le hlt hg.size, fun i hi => (hc i hi).same (hg.block b' hlt (fun e => hn (Option.some.inj e)))⟩
  · have hF := (h5 x hxx).2
    rw [e] at hF
    obtain ⟨s, hs⟩ := hF.str h0
    rw [cell_of_row _ _ _ _ _ _ hx] at hs
    simp at hs
/-- Behind a panic: no records, and false. -/
theorem get_fails {w w9 : World} {fn : Func} {tmps : Array Value} {zs : List Int} (hfn : fn.results = #[.cell 2 24, .cell 3 4]) (hp : tmps.getD 2 undef = .pointer (some ⟨w.heap.size, 0, none⟩)) (hr : tmps.getD 3 undef = .pointer (some ⟨w.heap.size + 1, 0, none⟩))
    {s : Value} {v : Bool} (hs : BoAt w9 w.heap.size s) (hb : BlAt w9 (w.heap.size + 1) v) (hB : Below w.heap.size w w9) (hv : bget zs = none) :
    Leaves Tryz.prog fn tmps (GetPost w (bget zs)) [{ target := .fn (.func 62) #[.pointer (some ⟨w.heap.size, 0, none⟩), .pointer (some ⟨w.heap.size + 1, 0, none⟩)], args := #[] }] (.panicking pan) w9 := by
  refine leaves_cons (f := 62) (args := #[.pointer (some ⟨w.heap.size, 0, none⟩), .pointer (some ⟨w.heap.size + 1, 0, none⟩)]) (by simp) (by simp [go_sem]) ?_
  have hB2 : ∀ x : Value, (w9.setCell ⟨w.heap.size, 0, none⟩ x).heap[w.heap.size + 1]? = w9.heap[w.heap.size + 1]? := fun x => Below.heap_setCell _ _ _ _ (show w.heap.size + 1 ≠ w.heap.size by omega)
  refine (catch_yes w.heap.size (w.heap.size + 1) s (.bool v) 9 _ [] w9 hs.c0 (hs.fz 0) (fun x => ?_) (fun x => ?_)).mono ?_
  · have h : BlAt (w9.setCell ⟨w.heap.size, 0, none⟩ x) (w.heap.size + 1) v := (hB2 x).trans hb
    rw [cell_of_row _ _ _ _ _ _ h]; rfl
  · exact frozen_of_row _ _ _ _ _ ((hB2 x).trans hb)
  rintro e u' w'' ⟨rfl, rfl, rfl⟩
  have h1 : BoAt ((w9.setCell ⟨w.heap.size, 0, none⟩ (.slice none 0 0)).setCell ⟨w.heap.size + 1, 0, none⟩ (.bool false)) w.heap.size (.slice none 0 0) := (hs.put0 _).same (Below.heap_setCell _ _ _ _ (show w.heap.size ≠ w.heap.size + 1 by omega))
  have h2 : BlAt ((w9.setCell ⟨w.heap.size, 0, none⟩ (.slice none 0 0)).setCell ⟨w.heap.size + 1, 0, none⟩ (.bool false)) (w.heap.size + 1) false := by
    unfold BlAt
    rw [heap_setCell_same _ _ _ _ _ _ ((hB2 _).trans hb)]
    rfl
  have h3 : Below w.heap.size w ((w9.setCell ⟨w.heap.size, 0, none⟩ (.slice none 0 0)).setCell ⟨w.heap.size + 1, 0, none⟩ (.bool false)) := (hB.setCell (p := ⟨w.heap.size, 0, none⟩) (Nat.le_refl _) _).setCell (p := ⟨w.heap.size + 1, 0, none⟩) (Nat.le_succ _) _
  refine ⟨_, res_get hfn hp hr h1 h2, ?_⟩
  rw [hv]
  exact ⟨bk0, rfl, rfl, BkAt.zero _, h3⟩
set_option maxHeartbeats 4000000 in
theorem get_book {B : Nat} (A : Option Addr) (len cap : Nat) (zs : List Int) (w : World) (h : Byt w B A zs) (hB : B ≤ w.heap.size) (hl : zs.length = len) (hb : AllBytes zs) (hlc : len ≤ cap) (hm : cap ≤ maxLen) :
    Calls Tryz.prog 33 #[.slice A len cap] w (GetPost w (bget zs)) := by
  have hmf : ∀ (fn : Fn) (first cap : Array Value) (w : World), (Instr.makeFunc fn first cap).run Tryz.prog w = .ok (.func fn first cap) w := fun _ _ _ _ => rfl
  have b1 := (Below.refl w.heap.size w).alloc (Nat.le_refl _) (.cells #[.slice none 0 0] 24)
  have b2 := b1.alloc b1.size (.cells #[.bool false] 4)
  have b3 := b2.alloc b2.size (.cells #[.slice A len cap] 84)
  have hbo : BoAt (((w.alloc (.cells #[.slice none 0 0] 24)).alloc (.cells #[.bool false] 4)).alloc (.cells #[.slice A len cap] 84)) w.heap.size (.slice none 0 0) := ((BoAt.new w _).old _).old _
  have hbl : BlAt (((w.alloc (.cells #[.slice none 0 0] 24)).alloc (.cells #[.bool false] 4)).alloc (.cells #[.slice A len cap] 84)) (w.heap.size + 1) false := by
    unfold BlAt
    rw [Below.heap_alloc _ _ _ (by simp only [World.size_alloc]; omega)]
    rw [← World.size_alloc w (.cells #[.slice none 0 0] 24)]
    exact heap_alloc_new _ _
  have hrd : RdAt (((w.alloc (.cells #[.slice none 0 0] 24)).alloc (.cells #[.bool false] 4)).alloc (.cells #[.slice A len cap] 84)) (w.heap.size + 1 + 1) zs := by
    refine ⟨A, len, cap, ?_, ((h.wide hB).below b3).wide (by omega), hl, hlc, hm, hb⟩
    rw [← World.size_alloc w (.cells #[.slice none 0 0] 24), ← World.size_alloc _ (.cells #[.bool false] 4)]
    exact heap_alloc_new _ _
  have HL := listR_any _ zs _ hrd
  have hsz : (((w.alloc (.cells #[.slice none 0 0] 24)).alloc (.cells #[.bool false] 4)).alloc (.cells #[.slice A len cap] 84)).heap.size = w.heap.size + 3 := by simp only [World.size_alloc]
  have HB3 := Lib.hid b3
  have HBO := Lib.hid hbo
  have HBL := Lib.hid hbl
  have HSZ := Lib.hid hsz
  clear h hB hl hb hlc hm b1 b2 b3 hbo hbl hrd hsz
  cases hls : lst prc 10 zs with
  | none =>
    rw [hls] at HL
    unfold LRPost at HL
    have HL := Lib.hid HL
    have HV := Lib.hid (show bget zs = none by unfold bget; rw [hls])
    clear hls
    generalize hw3 : ((w.alloc (.cells #[.slice none 0 0] 24)).alloc (.cells #[.bool false] 4)).alloc (.cells #[.slice A len cap] 84) = w3 at *
    go_enter_defers Tryz.func33, Tryz.ntmps33
    go_wp2_with fail
    refine HL.out.mono ?_
    rintro e w4 ⟨rfl, hg⟩
    have B4 := Lib.hid (HB3.out.grown hg HB3.out.size (fun k e => by have := Option.some.inj e; omega))
    have O4 := Lib.hid (HBO.out.same (hg.block _ HBO.out.lt (fun e => by have := Option.some.inj e; omega)))
    have L4 := Lib.hid (show BlAt w4 (w.heap.size + 1) false from (hg.block _ (by rw [HSZ.out]; omega) (fun e => by have := Option.some.inj e; omega)).trans HBL.out)
    clear hg
    go_wp2
    exact get_fails Tryz.results33 rfl rfl O4.out L4.out B4.out HV.out
  | some p =>
    obtain ⟨rs, ys⟩ := p
    rw [hls] at HL
    unfold LRPost at HL
    dsimp only at HL
    have HL := Lib.hid HL
    have hv : bget zs = if ys.length = 0 ∧ bmay rs = true then some rs else none := by unfold bget; rw [hls]
    clear hls
    generalize hw3 : ((w.alloc (.cells #[.slice none 0 0] 24)).alloc (.cells #[.bool false] 4)).alloc (.cells #[.slice A len cap] 84) = w3 at *
    by_cases hy : ys.length = 0
    · cases hm : bmay rs
      · have HV := Lib.hid (show bget zs = none by rw [hv, if_neg (by rw [hm]; simp)])
        have HY := Lib.hid hy
        have HM := Lib.hid hm
        clear hv hy hm
        go_enter_defers Tryz.func33, Tryz.ntmps33
        go_wp2_with fail
        refine HL.out.mono ?_
        rintro e w4 ⟨d, rfl, hd, hk, hr, hg⟩
        have B4 := HB3.out.grown hg HB3.out.size (fun k e => by have := Option.some.inj e; omega)
        have O4 := HBO.out.same (hg.block _ HBO.out.lt (fun e => by have := Option.some.inj e; omega))
        have L4 : BlAt w4 (w.heap.size + 1) false := (hg.block _ (by rw [HSZ.out]; omega) (fun e => by have := Option.some.inj e; omega)).trans HBL.out
        have c4 := O4.c0
        have f4 := O4.fz 0
        have B5 := Lib.hid (B4.setCell (p := ⟨w.heap.size, 0, none⟩) (Nat.le_refl _) (.slice d.A d.xs.length d.c))
        have O5 := Lib.hid (O4.put0 (.slice d.A d.xs.length d.c))
        have L5 : Hid (BlAt (w4.setCell ⟨w.heap.size, 0, none⟩ (.slice d.A d.xs.length d.c)) (w.heap.size + 1) false) := Lib.hid ((Below.heap_setCell _ _ _ _ (show w.heap.size + 1 ≠ w.heap.size by omega)).trans L4)
        have K5 := Lib.hid (hk.kept_bo (grownBy_setCell18 w4 w.heap.size 0 (.slice d.A d.xs.length d.c)) O4)
        have HD := Lib.hid hd
        obtain ⟨A4, len4, cap4, hq4, _, hl4, _⟩ := hr
        have c5 : (w4.setCell ⟨w.heap.size, 0, none⟩ (.slice d.A d.xs.length d.c)).cell? ⟨w.heap.size + 1 + 1, 0, none⟩ = some (.slice A4 len4 cap4) := by
          have e := Below.heap_setCell w4 ⟨w.heap.size, 0, none⟩ (.slice d.A d.xs.length d.c) (w.heap.size + 1 + 1) (show w.heap.size + 1 + 1 ≠ w.heap.size by omega)
          rw [cell_of_row _ _ _ _ _ _ (e.trans hq4)]; rfl
        subst hl4
        clear hd hk hg hq4 B4 O4 L4
        unfold Bk.s
        have hy0 := HY.out
        have HMY := bmay_any d _ K5.out
        rw [HD.out, HM.out] at HMY
        have HMY := Lib.hid HMY
        have c3 := O5.out.c0
        rw [hy0] at c5
        clear c3
        go_wp2_with fail
        refine HMY.out.mono ?_
        rintro e w6 ⟨rfl, hb⟩
        have B6 := Lib.hid (B5.out.trans (hb.mono B5.out.size))
        have O6 := Lib.hid (O5.out.below hb O5.out.lt)
        have L6 := Lib.hid (show BlAt w6 (w.heap.size + 1) false from (hb.block _ (Array.getElem?_eq_some_iff.1 L5.out).1).trans L5.out)
        clear hb c5
        go_wp2_with fail
        refine (need_no _ _).mono ?_
        rintro e w7 ⟨rfl, rfl⟩
        go_wp2
        exact get_fails Tryz.results33 rfl rfl O6.out L6.out B6.out HV.out
      · have HV := Lib.hid (show bget zs = some rs by rw [hv, if_pos ⟨hy, hm⟩])
        have HY := Lib.hid hy
        have HM := Lib.hid hm
        clear hv hy hm
        go_enter_defers Tryz.func33, Tryz.ntmps33
        go_wp2_with fail
        refine HL.out.mono ?_
        rintro e w4 ⟨d, rfl, hd, hk, hr, hg⟩
        have B4 := HB3.out.grown hg HB3.out.size (fun k e => by have := Option.some.inj e; omega)
        have O4 := HBO.out.same (hg.block _ HBO.out.lt (fun e => by have := Option.some.inj e; omega))
        have L4 : BlAt w4 (w.heap.size + 1) false := (hg.block _ (by rw [HSZ.out]; omega) (fun e => by have := Option.some.inj e; omega)).trans HBL.out
        have c4 := O4.c0
        have f4 := O4.fz 0
        have B5 := Lib.hid (B4.setCell (p := ⟨w.heap.size, 0, none⟩) (Nat.le_refl _) (.slice d.A d.xs.length d.c))
        have O5 := Lib.hid (O4.put0 (.slice d.A d.xs.length d.c))
        have L5 : Hid (BlAt (w4.setCell ⟨w.heap.size, 0, none⟩ (.slice d.A d.xs.length d.c)) (w.heap.size + 1) false) := Lib.hid ((Below.heap_setCell _ _ _ _ (show w.heap.size + 1 ≠ w.heap.size by omega)).trans L4)
        have K5 := Lib.hid (hk.kept_bo (grownBy_setCell18 w4 w.heap.size 0 (.slice d.A d.xs.length d.c)) O4)
        have HD := Lib.hid hd
        obtain ⟨A4, len4, cap4, hq4, _, hl4, _⟩ := hr
        have c5 : (w4.setCell ⟨w.heap.size, 0, none⟩ (.slice d.A d.xs.length d.c)).cell? ⟨w.heap.size + 1 + 1, 0, none⟩ = some (.slice A4 len4 cap4) := by
          have e := Below.heap_setCell w4 ⟨w.heap.size, 0, none⟩ (.slice d.A d.xs.length d.c) (w.heap.size + 1 + 1) (show w.heap.size + 1 + 1 ≠ w.heap.size by omega)
          rw [cell_of_row _ _ _ _ _ _ (e.trans hq4)]; rfl
        subst hl4
        clear hd hk hg hq4 B4 O4 L4
        unfold Bk.s
        have hy0 := HY.out
        have HMY := bmay_any d _ K5.out
        rw [HD.out, HM.out] at HMY
        have HMY := Lib.hid HMY
        have c3 := O5.out.c0
        rw [hy0] at c5
        clear c3
        go_wp2_with fail
        refine HMY.out.mono ?_
        rintro e w6 ⟨rfl, hb⟩
        have B6 := Lib.hid (B5.out.trans (hb.mono B5.out.size))
        have O6 := Lib.hid (O5.out.below hb O5.out.lt)
        have L6 := Lib.hid (show BlAt w6 (w.heap.size + 1) false from (hb.block _ (Array.getElem?_eq_some_iff.1 L5.out).1).trans L5.out)
        have K6 := Lib.hid (K5.out.below hb (Nat.le_refl _))
        clear hb c5
        go_wp2_with fail
        refine (need_yes _ _).mono ?_
        rintro e w7 ⟨rfl, rfl⟩
        have c6 := O6.out.c0
        have f6 := O6.out.fz 0
        have o7 := O6.out.put0 (.slice d.A d.xs.length d.c)
        have hne : (w7.setCell ⟨w.heap.size, 0, none⟩ (.slice d.A d.xs.length d.c)).heap[w.heap.size + 1]? = w7.heap[w.heap.size + 1]? := Below.heap_setCell _ _ _ _ (show w.heap.size + 1 ≠ w.heap.size by omega)
        have l7 : BlAt (w7.setCell ⟨w.heap.size, 0, none⟩ (.slice d.A d.xs.length d.c)) (w.heap.size + 1) false := hne.trans L6.out
        have k7 := K6.out.kept_bo (grownBy_setCell18 w7 w.heap.size 0 (.slice d.A d.xs.length d.c)) O6.out
        have b7 := B6.out.setCell (p := ⟨w.heap.size, 0, none⟩) (Nat.le_refl _) (.slice d.A d.xs.length d.c)
        have c7 : (w7.setCell ⟨w.heap.size, 0, none⟩ (.slice d.A d.xs.length d.c)).cell? ⟨w.heap.size + 1, 0, none⟩ = some (.bool false) := by rw [cell_of_row _ _ _ _ _ _ l7]; rfl
        have f7 : (w7.setCell ⟨w.heap.size, 0, none⟩ (.slice d.A d.xs.length d.c)).frozen? ⟨w.heap.size + 1, 0, none⟩ = false := frozen_of_row _ _ _ _ _ l7
        have o8 := Lib.hid (o7.same (Below.heap_setCell (w7.setCell ⟨w.heap.size, 0, none⟩ (.slice d.A d.xs.length d.c)) ⟨w.heap.size + 1, 0, none⟩ (.bool true) w.heap.size (show w.heap.size ≠ w.heap.size + 1 by omega)))
        have l8 : Hid (BlAt ((w7.setCell ⟨w.heap.size, 0, none⟩ (.slice d.A d.xs.length d.c)).setCell ⟨w.heap.size + 1, 0, none⟩ (.bool true)) (w.heap.size + 1) true) := Lib.hid (by
          unfold BlAt
          rw [heap_setCell_same _ _ _ _ _ _ l7]
          rfl)
        have k8 := Lib.hid (k7.kept_bl (grownBy_setCell18 _ (w.heap.size + 1) 0 (.bool true)) l7)
        have b8 := Lib.hid (b7.setCell (p := ⟨w.heap.size + 1, 0, none⟩) (Nat.le_succ _) (.bool true))
        clear o7 l7 k7 b7 hne
        go_wp2
        refine leaves_cons (f := 62) (args := #[.pointer (some ⟨w.heap.size, 0, none⟩), .pointer (some ⟨w.heap.size + 1, 0, none⟩)]) (by simp) (by simp [go_sem]) ?_
        refine (catch_no w.heap.size (w.heap.size + 1) _).mono ?_
        rintro e u' w'' ⟨rfl, rfl, rfl⟩
        refine ⟨_, res_get Tryz.results33 rfl rfl o8.out l8.out, ?_⟩
        rw [HV.out]
        exact ⟨d, rfl, HD.out, k8.out, b8.out⟩
    · have HV := Lib.hid (show bget zs = none by rw [hv, if_neg (by omega)])
      have HY := Lib.hid hy
      clear hv hy
      go_enter_defers Tryz.func33, Tryz.ntmps33
      go_wp2_with fail
      refine HL.out.mono ?_
      rintro e w4 ⟨d, rfl, hd, hk, hr, hg⟩
      have B4 := HB3.out.grown hg HB3.out.size (fun k e => by have := Option.some.inj e; omega)
      have O4 := HBO.out.same (hg.block _ HBO.out.lt (fun e => by have := Option.some.inj e; omega))
      have L4 : BlAt w4 (w.heap.size + 1) false := (hg.block _ (by rw [HSZ.out]; omega) (fun e => by have := Option.some.inj e; omega)).trans HBL.out
      have c4 := O4.c0
      have f4 := O4.fz 0
      have B5 := Lib.hid (B4.setCell (p := ⟨w.heap.size, 0, none⟩) (Nat.le_refl _) (.slice d.A d.xs.length d.c))
      have O5 := Lib.hid (O4.put0 (.slice d.A d.xs.length d.c))
      have L5 : Hid (BlAt (w4.setCell ⟨w.heap.size, 0, none⟩ (.slice d.A d.xs.length d.c)) (w.heap.size + 1) false) := Lib.hid ((Below.heap_setCell _ _ _ _ (show w.heap.size + 1 ≠ w.heap.size by omega)).trans L4)
      have K5 := Lib.hid (hk.kept_bo (grownBy_setCell18 w4 w.heap.size 0 (.slice d.A d.xs.length d.c)) O4)
      have HD := Lib.hid hd
      obtain ⟨A4, len4, cap4, hq4, _, hl4, _⟩ := hr
      have c5 : (w4.setCell ⟨w.heap.size, 0, none⟩ (.slice d.A d.xs.length d.c)).cell? ⟨w.heap.size + 1 + 1, 0, none⟩ = some (.slice A4 len4 cap4) := by
        have e := Below.heap_setCell w4 ⟨w.heap.size, 0, none⟩ (.slice d.A d.xs.length d.c) (w.heap.size + 1 + 1) (show w.heap.size + 1 + 1 ≠ w.heap.size by omega)
        rw [cell_of_row _ _ _ _ _ _ (e.trans hq4)]; rfl
      subst hl4
      clear hd hk hg hq4 B4 O4 L4
      unfold Bk.s
      have hy0 := HY.out
      generalize ys.length = L at *
      have t1 : ¬ (L : Int) = 0 := by omega
      have t2 : ¬ L = 0 := hy0
      go_wp2_with fail
      refine (need_no _ _).mono ?_
      rintro e w7 ⟨rfl, rfl⟩
      go_wp2
      exact get_fails Tryz.results33 rfl rfl O5.out L5.out B5.out HV.out
end Go.Proofs.YtcmknbdeafcknaaGreatDoor

