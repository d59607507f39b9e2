import Derived.Test.YtcmknbdeafcknaaGreatDoorBkLeq
import Derived.Test.YtcmknbdeafcknaaGreatDoorBkLast
import Derived.Test.YtcmknbdeafcknaaGreatDoorBkFind
import Derived.Test.YtcmknbdeafcknaaGreatDoorStNext
/-
  What book.with and book.mayRep answer; what Write and Kill are to answer. Nothing that was there is written.
-/
namespace Go.Proofs.YtcmknbdeafcknaaGreatDoor
open Go.RowKit WM
set_option linter.unusedVariables false
set_option maxRecDepth 100000
theorem bmayRep_any (r : Int) (w : World) : Calls Tryz.prog 51 #[.int .i64 r] w fun e w' => e = .returned (.bool (mayR r)) ∧ Below w.heap.size w w' := by
  have HB := Lib.hid (Below.refl w.heap.size w)
  by_cases h0 : 0 ≤ r
  · go_enter Tryz.func51, Tryz.ntmps51
    go_wp2
    go_ret
    exact ⟨by simp [mayR, h0], HB.out⟩
  · go_enter Tryz.func51, Tryz.ntmps51
    go_wp2
    go_ret
    exact ⟨by rw [mayR, decide_eq_false (by omega)]; rfl, HB.out⟩
/-- A book of one record that lies in a block. -/
theorem one_at {w : World} {x : RcA} (h : RvAt w x) : BkAt (w.alloc (.cells x.cells 33)) ⟨[x], some ⟨w.heap.size, 0, none⟩, 1⟩ := by
  refine ⟨Nat.le_refl _, (show 1 ≤ maxLen by decide), (fun e => by cases e), fun _ => ⟨w.heap.size, 0, rfl, by rw [World.size_alloc]; omega, fun i hi => ?_⟩, fun y hy => ?_⟩
  · obtain rfl : i = 0 := by simpa using hi
    exact (XAt.new w h.len).rec
  · rw [List.mem_singleton.1 hy]
    exact h.below ((Below.refl w.heap.size w).alloc (Nat.le_refl _) _) (Nat.le_refl _)
set_option maxHeartbeats 4000000 in
theorem with_any (b : Bk) (x : RcA) (w : World) (hlaid : Laid w) (h1 : BkAt w b) (h2 : RvAt w x) :
    Calls Tryz.prog 54 #[.agg #[.slice b.A b.xs.length b.c], .agg x.cells] w (BJoinPost w (bjE b.rs [x.R])) := by
  have s0 := ((BoAt.new w (.slice b.A b.xs.length b.c)).old (.cells x.cells 33)).old (.cells #[.slice none 0 0] 24)
  have x1 := (XAt.new (x := x) (w.alloc (.cells #[.slice b.A b.xs.length b.c] 24)) h2.len).old (.cells #[.slice none 0 0] 24)
  rw [World.size_alloc] at x1
  have s2 := BoAt.new ((w.alloc (.cells #[.slice b.A b.xs.length b.c] 24)).alloc (.cells x.cells 33)) (.slice none 0 0)
  rw [World.size_alloc, World.size_alloc] at s2
  have S2 := Lib.hid s2
  have HB := Lib.hid ((((Below.refl w.heap.size w).alloc (Nat.le_refl _) (.cells #[.slice b.A b.xs.length b.c] 24)).alloc (by simp) (.cells x.cells 33)).alloc (by simp; omega) (.cells #[.slice none 0 0] 24))
  have L6 := Lib.hid s0.load
  have L7 := Lib.hid x1.load
  have ZX := Lib.hid h2.len
  have hz : ∀ w : World, (zeroValue 24).run Tryz.prog w = .ok (.agg #[.slice none 0 0]) w := zeroBook
  have hb1 := build_book
  have hv := h2.below HB.out (Nat.le_refl _)
  have BA := (Below.refl ((((w.alloc (.cells #[.slice b.A b.xs.length b.c] 24)).alloc (.cells x.cells 33)).alloc (.cells #[.slice none 0 0] 24))).heap.size _).alloc (Nat.le_refl _) (.cells x.cells 33)
  have HBA := Lib.hid (HB.out.trans (BA.mono HB.out.size))
  have HO := one_at hv
  have HJ := Lib.hid (bjoin_any b ⟨[x], _, 1⟩ _ (hlaid.below HBA.out (Nat.le_refl _)) (h1.below HBA.out (Nat.le_refl _)) HO)
  have S3 := Lib.hid (S2.out.below BA S2.out.lt)
  unfold BJoinPost at HJ
  unfold BJoinPost
  have HE : Hid (bjE b.rs (Bk.rs ⟨[x], some ⟨w.heap.size + 1 + 1 + 1, 0, none⟩, 1⟩) = bjE b.rs [x.R]) := Lib.hid rfl
  simp only [World.size_alloc] at HJ
  dsimp only [List.length_cons, List.length_nil] at HJ
  rw [HE.out] at HJ
  generalize bjE b.rs [x.R] = r at HJ ⊢
  clear s0 x1 s2 h1 h2 hlaid hv BA HO
  go_enter Tryz.func54, Tryz.ntmps54
  go_wp2_with (first | ((with_reducible refine wpList_load_by (o := ⟨some 6, .load 24 (.tmp 2), _, _, _, _⟩) ?e1 24 (.tmp 2) ?e2 ⟨w.heap.size, 0, none⟩ ?e3 _ L6.out ?_); (case e1 => rfl); (case e2 => rfl); (case e3 => rfl)) | ((with_reducible refine wpList_load_by (o := ⟨some 7, .load 33 (.tmp 3), _, _, _, _⟩) ?e1 33 (.tmp 3) ?e2 ⟨(w.heap.size + 1), 0, none⟩ ?e3 _ L7.out ?_); (case e1 => rfl); (case e2 => rfl); (case e3 => rfl)) | ((with_reducible refine wpList_bslice (o := ⟨some 8, .buildSlice 22 1 #[(0, .tmp 7)], _, _, _, _⟩) ?e1 (.tmp 7) ?e2 x ?e3 ZX.out ?_); (case e1 => rfl); (case e2 => rfl); (case e3 => rfl)))
  refine HJ.out.mono ?_
  rintro e w1 ⟨d, rfl, hd, hk, hb⟩
  have S4 := Lib.hid (S3.out.below hb (by have := S3.out.lt; simp only [World.size_alloc] at this; exact this))
  have B1 := Lib.hid (HBA.out.trans (hb.mono (by have := HBA.out.size; simp only [World.size_alloc] at this; exact this)))
  have HD := Lib.hid hd
  have HK := Lib.hid hk
  clear hb hd hk
  go_wp2_with (first | ((with_reducible refine wpList_store_oldb (o := ⟨none, .store 24 (.tmp 4) (.tmp 11), _, _, _, _⟩) ?e1 (.tmp 4) (.tmp 11) ?e2 (w.heap.size + 1 + 1) _ S4.out ?e3 (.slice d.A d.xs.length d.c) ?e4 ?e5 ?_); (case e1 => rfl); (case e2 => rfl); (case e3 => rfl); (case e4 => rfl); (case e5 => rfl); intro w2 hg2 hx2; have G9 := Lib.hid hg2; have X9 := Lib.hid hx2; clear hg2 hx2))
  refine bodyPost_ret (v := .tuple #[.agg #[.slice d.A d.xs.length d.c], .int .i64 r.1]) ?_ rfl ?_
  · exact res_bk2 Tryz.results54 rfl X9.out
  · exact ⟨d, rfl, HD.out, HK.out.kept_bo G9.out S4.out, B1.out.grown G9.out B1.out.size (fun k e => by have := Option.some.inj e; omega)⟩
/-- A struct that is built, by what it is. -/
theorem wpList_build_by {w : World} {ops : Array Oper} {rest : List Oper} {o : Oper} {a : Act} {Q : Exit → Act → World → Prop} (hgd : o.guard = none) (t : TypeId) (parts : Array (Nat × Operand)) (hop : o.op = .build t parts) (ps : Array (Nat × Value)) (hp : parts.map (fun x => (x.1, a.eval x.2)) = ps)
    (v : Value) (hv : (Instr.build t ps).run Tryz.prog w = .ok v w) (hK : wpList Tryz.prog ops Q rest (a.put o.dst v) w) : wpList Tryz.prog ops Q (o :: rest) a w := by
  refine wpList_plain hgd fun K' hK' => ?_
  unfold Oper.wp execOp
  have e : parts.map (fun x => match x with | (i, x) => (i, a.eval x)) = ps := hp
  simp only [hop]
  rw [e]
  simp only [Sem.run_bind, hv, Result.andThen_ok, Sem.run_pure]
  exact hK' _ _ hK
/-! ### what Write and Kill are to answer -/
def bnext (rs : List Rc) (q : Int) : Int × Int × Int := nxt (blast rs).1 (blast rs).2 q
def bwok (rs : List Rc) (no q : Int) (s : ByteArray) : Bool := bmay rs && decide (0 ≤ no) && decide (no < 8) && mayR q && decide (s.size ≤ 200)
def wrec (z : List Int) (no : Int) (t : Int × Int × Int) (s : ByteArray) : Rc := ⟨z, 0, 0, [⟨no, ⟨t.1, t.2.1, s⟩⟩]⟩
def krec (z : List Int) (t : Int × Int × Int) : Rc := ⟨z, t.1, t.2.1, []⟩
def bwrite (rs : List Rc) (z : List Int) (no q : Int) (s : ByteArray) : Int × List Rc :=
  if bwok rs no q s = true then (if (bnext rs q).2.2 = 0 then bjE rs [wrec z no (bnext rs q) s] else ((bnext rs q).2.2, [])) else (1, [])
def bkill (rs : List Rc) (z : List Int) (q : Int) : Int × List Rc :=
  if (bmay rs && mayR q) = true then (if (bat rs z).isSome = true then (if (bnext rs q).2.2 = 0 then bjE rs [krec z (bnext rs q)] else ((bnext rs q).2.2, [])) else (6, [])) else (1, [])
theorem built_zf {z : List Int} (h : z.length = 16) (A : Option Addr) (l c : Nat) : Tryz.prog.built 33 [(0, .agg (bvals z)), (2, .slice A l c)] = some (rcells z 0 0 (.slice A l c)) := by
  obtain ⟨a, b, c', d, e, f, g, i, j, k, l', m, n', o, p, q, rfl⟩ := list16 h
  kernel_rfl
theorem build_zf {z : List Int} (h : z.length = 16) (A : Option Addr) (l c : Nat) (w : World) : (Instr.build 33 #[(0, .agg (bvals z)), (2, .slice A l c)]).run Tryz.prog w = .ok (.agg (rcells z 0 0 (.slice A l c))) w := run_build w _ _ _ (built_zf h A l c)
theorem build_zd {z : List Int} (h : z.length = 16) (n r : Int) (w : World) : (Instr.build 33 #[(0, .agg (bvals z)), (1, .agg #[.int .i64 n, .int .i64 r])]).run Tryz.prog w = .ok (.agg (rcells z n r (.slice none 0 0))) w := build_rec h n r w
theorem fs_one' (w : World) (f : Fld) : FsAt (w.alloc (.cells #[.int .i64 f.no, .int .i64 f.c.n, .int .i64 f.c.r, .string f.c.s] 59)) (some ⟨w.heap.size, 0, none⟩) 1 [f] := by
  have hF := FlAt.new w f
  refine ⟨Nat.le_refl _, by decide, fun h => (by cases h), fun _ => ⟨w.heap.size, 0, rfl, hF.lt, fun i hi => ?_⟩⟩
  obtain rfl : i = 0 := by simpa using hi
  exact ⟨hF.c0, hF.c1, hF.c2, hF.c3⟩
end Go.Proofs.YtcmknbdeafcknaaGreatDoor

