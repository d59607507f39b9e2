import Derived.Test.YtnlhkpmgbpfjmaaGreatDoorQc0
import Derived.Test.YtnlhkpmgbpfjmaaGreatDoorQc22
import Derived.Test.YtnlhkpmgbpfjmaaGreatDoorQc14
import Derived.Test.YtnlhkpmgbpfjmaaGreatDoorQc10
import Derived.Test.YtnlhkpmgbpfjmaaGreatDoorQc16
import Derived.Test.YtnlhkpmgbpfjmaaGreatDoorQc15
import Derived.Test.YtnlhkpmgbpfjmaaGreatDoorQc18
import Derived.WalkLawsBesides
import Derived.Recover
import Derived.Laws.Cover3
import Derived.Defers
import Derived.Lib.AppendZeros
import Derived.Deep.Draws
/-
  What the functions that a law of this layer reaches answer, part 23. Nothing that was there is written.
-/
namespace Go.Proofs.YtnlhkpmgbpfjmaaGreatDoor
set_option linter.unusedVariables false
set_option linter.unusedSimpArgs false
section
namespace WM
def decR : Nat → Bool → Int → List Int → Option (Int × Nat)
 | 0, _, _, _ => none
 | _ + 1, _, _, [] => none
 | r + 1, first, acc, b :: t =>
  if (first && b == 128) = true then none else if 144115188075855871 < acc then none else
  if b < 128 then some (acc * 128 + b % 128, 1) else (decR r false (acc * 128 + b % 128) t).map fun p => (p.1, p.2 + 1)
end WM
namespace WM
def dec (zs : List Int) : Option (Int × Nat) := decR 10 true 0 zs
end WM
section
open Go.RowKit WM
set_option maxRecDepth 20000
def cnt (most : Int) (zs : List Int) : Option (Nat × List Int) :=
 match dec zs with
 | none => none
 | some (n, k) => if n ≤ most then some (n.toNat, zs.drop k) else none
end
section
open Go.RowKit WM
set_option maxRecDepth 20000
end
section
open Go.RowKit WM
set_option maxRecDepth 20000
end
section
open Go.RowKit WM
set_option maxRecDepth 20000
end
end
section
open Go.RowKit WM
def fenc (f : Fld) : List Int := f.no :: cenc f.c
def renc (R : Rc) : List Int := R.z ++ (enc (R.n * 8 + R.r) ++ (enc R.fs.length ++ R.fs.flatMap fenc))
def benc (X : List Rc) : List Int := enc X.length ++ X.flatMap renc
theorem okFrom_mem {n r : Int} : ∀ {fs : List Fld} {m : Int}, 0 ≤ m → okFrom n r m fs = true → ∀ f ∈ fs, 0 ≤ f.no ∧ f.no < 8 ∧ cmay f.c = true
 | [], _, _, _, f, hf => by cases hf
 | g :: fs, m, hm, h, f, hf => by
  rw [okFrom] at h
  simp only [Bool.and_eq_true, decide_eq_true_eq] at h
  rcases List.mem_cons.1 hf with rfl | hf
  ·exact ⟨by omega, h.1.1.1.2, h.1.1.2⟩
  ·exact okFrom_mem (m := g.no + 1) (by omega) h.2 f hf
theorem may_fs {R : Rc} (h : R.may = true) : may R.n R.r = true ∧ R.fs.length ≤ 8 ∧ ∀ f ∈ R.fs, 0 ≤ f.no ∧ f.no < 8 ∧ cmay f.c = true := by
 have h' := h
 unfold Rc.may rmay at h'
 simp only [Bool.and_eq_true] at h'
 exact ⟨h'.1.1, rmay_len h, okFrom_mem (Int.le_refl 0) h'.2⟩
theorem fenc_len {f : Fld} (h : cmay f.c = true) : (fenc f).length ≤ 221 ∧ 1 ≤ (fenc f).length := by
 unfold fenc
 have := cenc_len f.c (by have := (cmay_iff.1 h).2.2; omega)
 rw [List.length_cons]
 omega
theorem flat_len {α : Type} {g : α → List Int} {b : Nat} : ∀ {l : List α}, (∀ a ∈ l, (g a).length ≤ b) → (l.flatMap g).length ≤ l.length * b
 | [], _ => by simp
 | a :: l, h => by
  have h1 := h a List.mem_cons_self
  have h2 := flat_len (l := l) fun x hx => h x (List.mem_cons_of_mem _ hx)
  rw [List.flatMap_cons, List.length_append, List.length_cons, Nat.add_mul]
  omega
theorem renc_len {R : Rc} (hz : R.z.length = 16) (h : R.may = true) : (renc R).length ≤ 2000 := by
 obtain ⟨h1, h2, h3⟩ := may_fs h
 have h4 := flat_len (g := fenc) (b := 221) (l := R.fs) fun f hf => (fenc_len (h3 f hf).2.2).1
 have h5 := (enc_len (R.n * 8 + R.r)).2
 have h6 := (enc_len (R.fs.length : Int)).2
 unfold renc
 rw [List.length_append, List.length_append, List.length_append, hz]
 omega
theorem benc_len {X : List Rc} (h : bmay X = true) (hz : ∀ R ∈ X, R.z.length = 16) : (benc X).length ≤ 30000 := by
 obtain ⟨h1, h2, h3⟩ := bmay_iff.1 h
 have h4 := flat_len (g := renc) (b := 2000) (l := X) fun R hR => renc_len (hz R hR) (h2 R hR)
 have h5 := (enc_len (X.length : Int)).2
 unfold benc
 rw [List.length_append]
 omega
theorem flat_bytes {α : Type} {g : α → List Int} {l : List α} (h : ∀ a ∈ l, AllBytes (g a)) : AllBytes (l.flatMap g) := fun z hz => by
 obtain ⟨a, ha, hz⟩ := List.mem_flatMap.1 hz
 exact h a ha z hz
theorem fenc_bytes {f : Fld} (h0 : 0 ≤ f.no) (h8 : f.no < 8) : AllBytes (fenc f) := fun z hz => by
 rcases List.mem_cons.1 hz with rfl | hz
 ·omega
 ·exact cenc_bytes _ z hz
theorem renc_bytes {R : Rc} (hk : R.Ok) (h : R.may = true) : AllBytes (renc R) :=
 all_append hk.2 (all_append (enc_bytes _) (all_append (enc_bytes _) (flat_bytes fun f hf => fenc_bytes ((may_fs h).2.2 f hf).1 ((may_fs h).2.2 f hf).2.1)))
theorem benc_bytes {X : List Rc} (h : bmay X = true) (hk : ∀ R ∈ X, R.Ok) : AllBytes (benc X) :=
 all_append (enc_bytes _) (flat_bytes fun R hR => renc_bytes (hk R hR) ((bmay_iff.1 h).2.1 R hR))
theorem bk_ok {w : World} {b : Bk} (h : BkAt w b) : ∀ R ∈ b.rs, R.Ok := fun R hR => by
 obtain ⟨x, hx, rfl⟩ := List.mem_map.1 hR
 exact (h.2.2.2.2 x hx).1
end
section
section
open Go.RowKit WM
def GrowPost1 (w : World) (e : Ending) (w' : World) : Prop := ∃ v, e = .returned v ∧ w'.ownsRow w.heap.size 5 1 v 0 [] ∧ Below w.heap.size w w'
set_option maxRecDepth 20000 in
set_option maxHeartbeats 1000000 in
theorem grow1_any (n : Nat) (w : World) (h0 : 0 < n) (hn : n ≤ 1000) : Calls Tryz.prog 135 #[.slice none 0 0, .int .i64 n] w (GrowPost1 w) := by
 obtain ⟨i0, hi, hz0, hz1, hz2⟩ := info_parts infoByte
 have happ := Lib.run_append_nil_zeros (P := Tryz.prog) w 105 3 105 5 i0 (.int .u8 0) .i64 .i64 Tryz.underlying105 Tryz.underlying3 hi hz0 n (by omega) (by omega) (by omega) (by rw [hz2]; omega)
 have hg := grownCap_ge w n 0 5
 have hm := grownCap_le_maxLen w n 0 5 (by simp only [maxLen]; omega)
 generalize grownCap w n 0 5 = C at happ hg hm
 have hs : (Builtin.zeroCells (Value.int .u8 0).cells n ++ Builtin.zeroCells (Value.int .u8 0).cells (C - n)).size = C * 1 := by
  rw [Array.size_append, size_zeroCells, size_zeroCells, show (Value.int .u8 0).cells.size = 1 from rfl]; omega
 generalize Builtin.zeroCells (Value.int .u8 0).cells n ++ Builtin.zeroCells (Value.int .u8 0).cells (C - n) = Z at happ hs
 have HO := Lib.hid (World.ownsRow_made (base := w.heap.size) (size := 1) (e := 5) w.drew Z C (Nat.le_refl _) hm hs)
 have HB := Lib.hid (((Below.refl w.heap.size w).drew).alloc (Nat.le_refl _) (.cells Z 5))
 have s1 := sl_h none 0 0 0 (Nat.le_refl _) 0 rfl
 have s2 := sl_h (some ⟨w.heap.size, 0, none⟩) n C 0 (Nat.zero_le _) 0 rfl
 have t1 : ¬ (n : Int) < 0 := by omega
 have t2 : (0 : Int) < (n : Int) := by omega
 simp only [maxLen] at hm
 clear hs h0
 go_enter Tryz.func135, Tryz.ntmps135
 go_wp2_with (at_builtin; refine Lib.wpList_append_run _ rfl _ _ _ _ rfl _ _ rfl rfl _ _ happ ?_)
 go_ret
 exact ⟨_, rfl, HO.out, HB.out⟩
def BsAt (w : World) (A : Option Addr) (n c : Nat) (zs : List Int) : Prop := Byt w w.heap.size A zs ∧ zs.length = n ∧ (A = none → c = 0)
theorem BsAt.below {w w' : World} {B : Nat} {A : Option Addr} {n c : Nat} {zs : List Int} (h : BsAt w A n c zs) (hb : Below B w w') (hB : w.heap.size ≤ B) : BsAt w' A n c zs := ⟨(h.1.below (hb.mono hB)).wide hb.size, h.2⟩
theorem BsAt.own {w : World} {base n c : Nat} {A : Option Addr} {zs : List Int} (h : w.ownsRow base 5 1 (.slice A n c) n (zs.map (Value.int .u8))) : BsAt w A n c zs := ⟨Byt.own h, by simpa using h.1, own_nil h⟩
set_option maxRecDepth 20000 in
set_option maxHeartbeats 4000000 in
theorem concat3_any (g : Nat) (A1 A2 A3 : Option Addr) (l1 l2 l3 c1 c2 c3 : Nat) (f1 f2 f3 : List Int) (w : World) (hg : g < w.heap.size) (hg0 : w.cell? ⟨g, 0, none⟩ = some (.slice A1 l1 c1)) (hg1 : w.cell? ⟨g, 1, none⟩ = some (.slice A2 l2 c2)) (hg2 : w.cell? ⟨g, 2, none⟩ = some (.slice A3 l3 c3))
  (h1 : BsAt w A1 l1 c1 f1) (h2 : BsAt w A2 l2 c2 f2) (h3 : BsAt w A3 l3 c3 f3) (hs : l1 + l2 + l3 ≤ 1000) (hp : 0 < l1) :
  Calls Tryz.prog 122 #[.slice (some ⟨g, 0, none⟩) 3 3] w (Gives w (f1 ++ f2 ++ f3)) := by
 have HG := Lib.hid (grow1_any (l1 + l2 + l3))
 rw [Int.natCast_add, Int.natCast_add] at HG
 unfold GrowPost1 at HG
 have t1 : ¬ (l1 : Int) < 0 := by omega
 have t2 : ¬ (l1 : Int) + (l2 : Int) < 0 := by omega
 have t3 : ¬ (l1 : Int) + (l2 : Int) + (l3 : Int) < 0 := by omega
 obtain ⟨i0, hi, hz0, hz1, hz2⟩ := info_parts infoByte
 have H1 := Lib.hid h1
 have H2 := Lib.hid h2
 have H3 := Lib.hid h3
 clear h1 h2 h3
 go_enter Tryz.func122, Tryz.ntmps122
 go_wp2
 refine wp_loop_rounds 4 ?_
 rw [rounds_succ]
 go_wp2
 rw [rounds_succ]
 go_wp2
 rw [rounds_succ]
 go_wp2
 rw [rounds_succ]
 go_wp2_with fail
 refine (HG.out _ (by omega) hs).mono ?_
 rintro e w1 ⟨v, rfl, ho, hb⟩
 have G1 := Lib.hid hg1
 have G2 := Lib.hid hg2
 have hg0 := (hb.cell (p := ⟨g, 0, none⟩) hg).trans hg0
 have F1 := Lib.hid (H1.out.below hb (Nat.le_refl _))
 have HB := Lib.hid hb
 clear hb hg1 hg2
 go_wp2
 refine wp_loop_rounds 4 ?_
 rw [rounds_succ]
 go_wp2_with (at_builtin; refine wpList_append_byt _ rfl _ _ 105 rfl w.heap.size 5 i0 Tryz.underlying105 hi hz0 hz1 hz2 _ 0 [] rfl ho _ A1 l1 c1 f1 rfl F1.out.1 F1.out.2.1 F1.out.2.2 (by omega) HB.out.size ?_; intro v2 w2 ho2 hg2)
 have HB2 := HB.out.grown hg2 HB.out.size (fun g hg => own_base ho hg)
 have hg1 := (HB2.cell (p := ⟨g, 1, none⟩) hg).trans G1.out
 have F2 := Lib.hid (H2.out.below HB2 (Nat.le_refl _))
 have HB2 := Lib.hid HB2
 clear hg2 hg0
 rw [List.nil_append] at ho2
 rw [rounds_succ]
 go_wp2_with (at_builtin; refine wpList_append_byt _ rfl _ _ 105 rfl w.heap.size 5 i0 Tryz.underlying105 hi hz0 hz1 hz2 _ _ f1 rfl ho2 _ A2 l2 c2 f2 rfl F2.out.1 F2.out.2.1 F2.out.2.2 (by omega) HB2.out.size ?_; intro v3 w3 ho3 hg3)
 have HB3 := HB2.out.grown hg3 HB2.out.size (fun g hg => own_base ho2 hg)
 have hg2 := (HB3.cell (p := ⟨g, 2, none⟩) hg).trans G2.out
 have F3 := Lib.hid (H3.out.below HB3 (Nat.le_refl _))
 have HB3 := Lib.hid HB3
 clear hg3 hg1 ho ho2
 rw [rounds_succ]
 go_wp2_with (at_builtin; refine wpList_append_byt _ rfl _ _ 105 rfl w.heap.size 5 i0 Tryz.underlying105 hi hz0 hz1 hz2 _ _ (f1 ++ f2) rfl ho3 _ A3 l3 c3 f3 rfl F3.out.1 F3.out.2.1 F3.out.2.2 (by omega) HB3.out.size ?_; intro v4 w4 ho4 hg4)
 have HB4 := Lib.hid (HB3.out.grown hg4 HB3.out.size (fun g hg => own_base ho3 hg))
 have HO4 := Lib.hid ho4
 clear hg4 hg2 ho3 ho4
 rw [rounds_succ]
 go_wp2
 go_ret
 exact gives_own HO4.out HB4.out
end
section
open Go.RowKit WM
set_option maxRecDepth 20000
theorem sl_arr (b : Nat) (w : World) : (Instr.sliceAt 31 (.pointer (some ⟨b, 0, none⟩)) none none none).run Tryz.prog w = .ok (.slice (some ⟨b, 0, none⟩) 16 16) w := by
 rw [run_sliceAt_array_all w 31 ⟨b, 0, none⟩ (show Tryz.prog.underlying 31 = some (.array (Tryz.prog.arrayLen 31) (Tryz.prog.elem 31)) by kernel_rfl)]
 rw [show Tryz.prog.elem 31 = 5 by kernel_rfl, show Tryz.prog.arrayLen 31 = 16 by kernel_rfl, sizeByte]
 simp [Result.andThen, slicedAt, Addr.add]
theorem xat_byt {w : World} {b : Nat} {x : RcA} (h : XAt w b x) : BsAt w (some ⟨b, 0, none⟩) 16 16 x.R.z :=
 ⟨fun _ => ⟨b, 0, rfl, h.lt, fun i hi => h.rec.cellz (by rw [h.1] at hi; exact hi)⟩, h.1, fun h => by cases h⟩
theorem own_lt {w : World} {base size n g : Nat} {e : TypeId} {v : Value} {xs : List Value} (h : w.ownsRow base e size v n xs) (hg : v.ownBlock = some g) : g < w.heap.size := by
 rcases h.2 with ⟨rfl, _⟩ | ⟨g', cap, cur, rfl, hb, hh, _⟩
 ·simp [Value.ownBlock] at hg
 ·obtain rfl : g' = g := by simpa [Value.ownBlock] using hg
  exact (Array.getElem?_eq_some_iff.1 hh).1
theorem own_apart {w w' : World} {b1 s1 n1 s2 n2 : Nat} {e1 e2 : TypeId} {v1 v2 : Value} {x1 x2 : List Value} (h : w.ownsRow b1 e1 s1 v1 n1 x1) (k : w'.ownsRow w.heap.size e2 s2 v2 n2 x2) : v2.ownBlock = none ∨ v2.ownBlock ≠ v1.ownBlock := by
 cases ho : v2.ownBlock with
 | none => exact .inl rfl
 | some g => exact .inr (fun e => by have := own_base k ho; have := own_lt h e.symm; omega)
set_option maxHeartbeats 4000000 in
theorem putRec_any (x : RcA) (w : World) (h : RvAt w x) (hm : x.R.may = true) : Calls Tryz.prog 107 #[.agg x.cells] w (Gives w (renc x.R)) := by
 obtain ⟨hmay, hl8, hmem⟩ := may_fs hm
 have HX := Lib.hid (XAt.new (x := x) w h.len)
 have HB := Lib.hid ((Below.refl w.heap.size w).alloc (Nat.le_refl _) (.cells x.cells 36))
 have x16 := HX.out.c16
 have x17 := HX.out.c17
 have HF := Lib.hid h.2
 have HZ := Lib.hid h.len
 have HP := stPut_yes x.R.n x.R.r (w.alloc (.cells x.cells 36)) hmay
 unfold st GivesT at HP
 have HP := Lib.hid HP
 have HMM := Lib.hid hmem
 have HE1 := Lib.hid (enc_len (x.R.n * 8 + x.R.r)).2
 have HR : Hid (renc x.R = x.R.z ++ (enc (x.R.n * 8 + x.R.r) ++ (enc x.R.fs.length ++ x.R.fs.flatMap fenc))) := Lib.hid rfl
 have HE2 := Lib.hid (enc_len (x.R.fs.length : Int)).2
 have HPG := Lib.hid (fun w => put_gives (x.R.fs.length : Int) w (by omega) (by omega))
 unfold Gives at HPG
 have HWR : Hid (IntKind.u64.wrap (x.R.fs.length : Int) = (x.R.fs.length : Int)) := Lib.hid (IntWalk.u64_in _ (by omega))
 generalize enc (x.R.n * 8 + x.R.r) = E1 at *
 clear h hm hmay hmem
 generalize hC : x.cells = C at *
 have HCC := Lib.hid hC
 clear hC
 go_enter Tryz.func107, Tryz.ntmps107
 go_wp2_with fail
 refine HP.out.mono ?_
 rintro e w2 ⟨A1, n1, k1, rfl, hn1, hnk1, hkm1, hown1, hb1⟩
 have B2 := Lib.hid (HB.out.trans (hb1.mono HB.out.size))
 have O2 := Lib.hid (BsAt.own hown1)
 have X2 := Lib.hid (HX.out.below hb1 HX.out.lt)
 clear hn1 hnk1 hkm1 hown1 hb1 x16 x17
 go_wp2_with fail
 refine wp_region_held_drew (S := fun w' => Below w2.heap.size w2 w') (by kernel_rfl) ((Below.refl w2.heap.size w2).drew) (fun hS => ?_)
 refine wpHv (i := 0) (oi := ⟨some 16, _, _, _, _, _⟩) (v := ?_) rfl ?_ hS ?_; rotate_left; (focus (intro w9 hSw; (try dsimp only at hSw); go_simp; try with_reducible rfl)); simp only [Act.put, Z2, Z3, Z4]
 refine wpHv (i := 1) (oi := ⟨some 17, _, _, _, _, _⟩) (v := (.slice (some ⟨w.heap.size, 0, none⟩) 16 16)) rfl ?_ hS ?_; (focus (intro w9 hSw; (try dsimp only at hSw); have q0 := sl_arr w.heap.size w9; go_simp; try rfl)); simp only [Act.put, Z2, Z3, Z4]
 refine wpHv (i := 2) (oi := ⟨some 18, _, _, _, _, _⟩) (v := ?_) rfl ?_ hS ?_; rotate_left; (focus (intro w9 hSw; (try dsimp only at hSw); go_simp; try with_reducible rfl)); simp only [Act.put, Z2, Z3, Z4]
 refine wpHv (i := 3) (oi := ⟨some 19, _, _, _, _, _⟩) (v := ?_) rfl ?_ hS ?_; rotate_left; (focus (intro w9 hSw; (try dsimp only at hSw); go_simp; try with_reducible rfl)); simp only [Act.put, Z2, Z3, Z4]
 refine wpHv (i := 4) (oi := ⟨some 20, _, _, _, _, _⟩) (v := ?_) rfl ?_ hS ?_; rotate_left; (focus (intro w9 hSw; (try dsimp only at hSw); have q0 := (X2.out.below hSw X2.out.lt).c18; go_simp; try with_reducible rfl)); simp only [Act.put, Z2, Z3, Z4]
 refine wpHv (i := 5) (oi := ⟨some 21, _, _, _, _, _⟩) (v := ?_) rfl ?_ hS ?_; rotate_left; (focus (intro w9 hSw; (try dsimp only at hSw); go_simp; try with_reducible rfl)); simp only [Act.put, Z2, Z3, Z4]
 refine wpHv (i := 6) (oi := ⟨some 22, _, _, _, _, _⟩) (v := (.int .u64 (x.R.fs.length : Int))) rfl ?_ hS ?_; (focus (intro w9 hSw; (try dsimp only at hSw); have q0 := HWR.out; go_simp; try rfl)); simp only [Act.put, Z2, Z3, Z4]
 refine wpAnyH_ready (rs := [7]) (by kernel_rfl) (by simp) (AllReadyH.cons (o := ⟨some 23, _, _, _, _, _⟩) rfl (fun K hK => ?_) AllReadyH.nil)
 go_simp
 refine (HPG.out _).mono ?_
 rintro e w4 ⟨A3, n3, k3, rfl, hn3, hnk3, hkm3, hown3, hb3⟩
 have hb4 := hS.trans (hb3.mono hS.size)
 have B4 := Lib.hid (B2.out.trans (hb4.mono B2.out.size))
 have O4 := Lib.hid (BsAt.own hown3)
 have P4 := Lib.hid (O2.out.below hb4 (Nat.le_refl _))
 have X4 := Lib.hid (X2.out.below hb4 X2.out.lt)
 clear hn3 hnk3 hkm3 hown3 hb3 hS
 refine hK.out _ _ hb4 (fun hS => ?_)
 clear hK K
 refine wpAnyH_ready (rs := [8]) (by kernel_rfl) (by simp) (AllReadyH.cons (o := ⟨some 24, _, _, _, _, _⟩) rfl (fun K hK => ?_) AllReadyH.nil)
 go_simp
 refine hK.out _ _ (hb4.alloc hb4.size _) (fun hS => ?_)
 clear hK K
 have BA := (Below.refl w4.heap.size w4).alloc (Nat.le_refl _) (.cells #[.slice (some ⟨w.heap.size, 0, none⟩) 16 16, .slice A1 n1 k1, .slice A3 n3 k3] 105)
 have hh : (w4.alloc (.cells #[.slice (some ⟨w.heap.size, 0, none⟩) 16 16, .slice A1 n1 k1, .slice A3 n3 k3] 105)).heap[w4.heap.size]? = some (.cells #[.slice (some ⟨w.heap.size, 0, none⟩) 16 16, .slice A1 n1 k1, .slice A3 n3 k3] 105) := heap_alloc_new w4 _
 have HC := Lib.hid (concat3_any w4.heap.size (some ⟨w.heap.size, 0, none⟩) A1 A3 16 n1 n3 16 k1 k3 x.R.z E1 (enc x.R.fs.length) _ (by simp) (by rw [cell_of_row _ _ _ _ _ _ hh]; rfl) (by rw [cell_of_row _ _ _ _ _ _ hh]; rfl) (by rw [cell_of_row _ _ _ _ _ _ hh]; rfl) ((xat_byt X4.out).below BA (Nat.le_refl _)) (P4.out.below BA (Nat.le_refl _)) (O4.out.below BA (Nat.le_refl _)) (by have := O4.out.2.1; have := P4.out.2.1; have := HE1.out; have := HE2.out; omega) (by omega))
 have B5 := B4.out.alloc B4.out.size (.cells #[.slice (some ⟨w.heap.size, 0, none⟩) 16 16, .slice A1 n1 k1, .slice A3 n3 k3] 105)
 have X5 := X4.out.below BA X4.out.lt
 clear BA hh
 generalize w4.alloc (.cells #[.slice (some ⟨w.heap.size, 0, none⟩) 16 16, .slice A1 n1 k1, .slice A3 n3 k3] 105) = w5 at *
 refine wpAnyH_ready (rs := [9]) (by kernel_rfl) (by simp) (AllReadyH.cons (o := ⟨some 25, _, _, _, _, _⟩) rfl (fun K hK => ?_) AllReadyH.nil)
 go_simp
 refine HC.out.mono ?_
 rintro e w6 ⟨A6, n6, k6, rfl, hn6, hnk6, hkm6, hown6, hb6⟩
 have hb7 := hS.trans (hb6.mono hS.size)
 have B6 := Lib.hid (B5.trans (hb6.mono B5.size))
 have O6 := Lib.hid (own_wide hown6 B5.size)
 have X6 := Lib.hid (X5.below hb6 X5.lt)
 have HN6 := Lib.hid hn6
 clear hn6 hnk6 hkm6 hown6 hb6 hb4 B5 X5 hS
 refine hK.out _ _ hb7 (fun hS => ?_)
 clear hK K
 refine wpHv (i := 10) (oi := ⟨some 5, _, _, _, _, _⟩) (v := ?_) rfl ?_ hS ?_; rotate_left; (focus (intro w9 hSw; (try dsimp only at hSw); go_simp; try with_reducible rfl)); simp only [Act.put, Z2, Z3, Z4]
 refine wpAnyH_done (by kernel_rfl) ?_ _
 clear hS hb7
 have x18 := X6.out.c18
 have HRV := Lib.hid (show x.R.z ++ E1 ++ enc x.R.fs.length ++ (x.R.fs.take 0).flatMap fenc = x.R.z ++ E1 ++ enc x.R.fs.length by simp)
 have HLB := Lib.hid (fun k => flat_len (g := fenc) (b := 221) (l := x.R.fs.take k) fun f hf => (fenc_len (HMM.out f (List.mem_of_mem_take hf)).2.2).1)
 have HH : Hid ((x.R.z ++ E1 ++ enc x.R.fs.length).length ≤ 100) := Lib.hid (by rw [List.length_append, List.length_append, HZ.out]; have := HE1.out; have := HE2.out; omega)
 have HEQ : Hid (renc x.R = (x.R.z ++ E1 ++ enc x.R.fs.length) ++ x.R.fs.flatMap fenc) := Lib.hid (by rw [HR.out]; simp)
 generalize x.R.z ++ E1 ++ enc x.R.fs.length = H at *
 clear HPG HWR HP HR HE1 HE2
 go_wp2
 generalize hfs : x.R.fs = fs at *
 have HFS := Lib.hid hfs
 generalize hlen : fs.length = len at *
 have HLN := Lib.hid hlen
 obtain ⟨i0, hi, hz0, hz1, hz2⟩ := info_parts infoByte
 clear hfs hlen x18
 go_loopw [5, 29] (fun v i wr => ∃ (k m : Nat), k ≤ len ∧ i = .int .i64 k ∧ wr.ownsRow w.heap.size 5 1 v m ((H ++ (fs.take k).flatMap fenc).map (Value.int .u8)) ∧ Below w.heap.size w wr) (fun _ i _ => len - (intOf i).toNat)
 case atStart => exact ⟨0, n6, Nat.zero_le _, rfl, by rw [HRV.out]; exact O6.out, B6.out⟩
 case round =>
  obtain ⟨k, m, hk, rfl, ho, hb⟩ := hrel
  by_cases hlt : k < len
  ·have hF := HF.out.below hb (Nat.le_refl _)
   obtain ⟨_, _, _, h4⟩ := hF
   obtain ⟨b0, off, hA, hb0, hcc⟩ := h4 (by rw [HLN.out]; omega)
   obtain ⟨c0, c1, c2, c3⟩ := hcc k (by rw [HLN.out]; exact hlt)
   have hix := ix_fld b0 off len x.c k hlt k rfl
   have hml : m = (H ++ (fs.take k).flatMap fenc).length := by simpa using ho.1.symm
   have hlb := HLB.out k
   have hHH := HH.out
   rw [List.length_take, HLN.out, Nat.min_eq_left hk] at hlb
   rw [List.length_append] at hml
   have hm9 : m ≤ 3000 := by omega
   have hfm := HMM.out (fs.getD k fld0) (by rw [List.getD_eq_getElem?_getD, List.getElem?_eq_getElem (by rw [HLN.out]; exact hlt)]; exact List.getElem_mem _)
   have HNX : Hid (H ++ (fs.take (k + 1)).flatMap fenc = (H ++ (fs.take k).flatMap fenc) ++ [(fs.getD k fld0).no] ++ cenc (fs.getD k fld0).c) := Lib.hid (by
    rw [List.take_add_one, List.flatMap_append, List.getElem?_eq_getElem (by rw [HLN.out]; exact hlt), List.getD_eq_getElem?_getD, List.getElem?_eq_getElem (by rw [HLN.out]; exact hlt)]
    simp [fenc])
   generalize fs.getD k fld0 = f at *
   generalize hP : H ++ (fs.take k).flatMap fenc = P at *
   have hcv : IntKind.u8.wrap f.no = f.no := IntWalk.u8_in _ (by omega)
   have HC := cput_any f.c
   unfold CPutPost GivesT Cel.v at HC
   simp only [hfm.2.2, if_true] at HC
   have HC := Lib.hid HC
   have HLC := Lib.hid (cenc_len f.c (by have := (cmay_iff.1 hfm.2.2).2.2; omega)).1
   have HO := Lib.hid ho
   have HBB := Lib.hid hb
   have N1 := Lib.hid (FlAt.new wr f)
   have B1 := Lib.hid (hb.alloc hb.size (.cells #[.int .i64 f.no, .int .i64 f.c.n, .int .i64 f.c.r, .string f.c.s] 59))
   have O1 := Lib.hid (ho.alloc (.cells #[.int .i64 f.no, .int .i64 f.c.n, .int .i64 f.c.r, .string f.c.s] 59))
   rw [hA]
   clear hml hlb hHH hcc h4 ho hb hP hfm
   have d1 := N1.out.c1
   have d2 := N1.out.c2
   have d3 := N1.out.c3
   go_wp2_with fail
   refine (HC.out _).mono ?_
   rintro e w7 ⟨A7, n7, k7, rfl, hn7, hnk7, hkm7, hown7, hb7⟩
   have e0 := (N1.out.below hb7 N1.out.lt).c0
   have B7 := Lib.hid (B1.out.trans (hb7.mono B1.out.size))
   have O7 := Lib.hid ((own_below O1.out hb7).alloc (.cells #[.int .u8 f.no] 5))
   have B8 := Lib.hid (B7.out.alloc B7.out.size (.cells #[.int .u8 f.no] 5))
   have S7 := Lib.hid (hown7.alloc (.cells #[.int .u8 f.no] 5))
   have HNE := Lib.hid (own_apart O1.out hown7)
   have Y8 : Hid (Byt (w7.alloc (.cells #[.int .u8 f.no] 5)) (w7.alloc (.cells #[.int .u8 f.no] 5)).heap.size (some ⟨w7.heap.size, 0, none⟩) [f.no]) := Lib.hid (fun _ => ⟨w7.heap.size, 0, rfl, by rw [World.size_alloc]; omega, fun i hi => by
    obtain rfl : i = 0 := by simpa using hi
    have hh : (w7.alloc (.cells #[.int .u8 f.no] 5)).heap[w7.heap.size]? = some (.cells #[.int .u8 f.no] 5) := heap_alloc_new w7 _
    rw [cell_of_row _ _ _ _ _ _ hh]; rfl⟩)
   have HN7 := Lib.hid hn7
   clear hn7 hnk7 hkm7 hown7 hb7 d1 d2 d3 c0 c1 c2 c3
   go_wp2_with (first | (at_builtin; refine wpList_append_byt _ rfl (.tmp 39) (.tmp 43) 105 rfl w.heap.size 5 i0 Tryz.underlying105 hi hz0 hz1 hz2 _ m P rfl O7.out _ (some ⟨w7.heap.size, 0, none⟩) 1 1 [f.no] rfl Y8.out rfl (fun h => by cases h) (by omega) B8.out.size ?_; intro v8 w8 ho8 hg8; have O8 := Lib.hid ho8; have B9 := Lib.hid (B8.out.grown hg8 B8.out.size (fun g hg => own_base O7.out hg)); have S8 := Lib.hid (BsAt.own (S7.out.kept hg8 HNE.out)); clear ho8 hg8) | (at_builtin; refine wpList_append_byt _ rfl (.tmp 44) (.tmp 45) 105 rfl w.heap.size 5 i0 Tryz.underlying105 hi hz0 hz1 hz2 _ (m + 1) (P ++ [f.no]) rfl O8.out _ A7 n7 k7 (cenc f.c) rfl S8.out.1 S8.out.2.1 S8.out.2.2 (by have := HN7.out; have := HLC.out; omega) B9.out.size ?_; intro v9 w9 ho9 hg9; have O9 := Lib.hid ho9; have B10 := Lib.hid (B9.out.grown hg9 B9.out.size (fun g hg => own_base O8.out hg)); clear ho9 hg9))
   go_roundw
   case rel => exact ⟨k + 1, m + 1 + n7, by omega, by go_num, by rw [HNX.out]; exact O9.out, B10.out⟩
   case measure => simp [intOf]; omega
  ·have hkn : k = len := by omega
   subst hkn
   have t1 : ¬ (k : Int) < (k : Int) := by omega
   have HO := Lib.hid ho
   have HBB := Lib.hid hb
   clear ho hb
   go_wp2
   go_ret
   rw [HEQ.out, ← List.take_length (l := fs), HLN.out]
   exact gives_own HO.out HBB.out
def PutPost (w : World) (X : List Rc) (e : Ending) (w' : World) : Prop :=
 if bmay X then GivesT w (benc X) e w' else e = .returned (.tuple #[.slice none 0 0, .bool false]) ∧ Below w.heap.size w w'
set_option maxHeartbeats 4000000 in
theorem put_book (b : Bk) (w : World) (h : BkAt w b) : Calls Tryz.prog 80 #[.agg #[.slice b.A b.xs.length b.c]] w (PutPost w b.rs) := by
 have S0 := Lib.hid (BoAt.new w (.slice b.A b.xs.length b.c))
 have HB := Lib.hid ((Below.refl w.heap.size w).alloc (Nat.le_refl _) (.cells #[.slice b.A b.xs.length b.c] 24))
 have HM := Lib.hid (bmay_any b _ (h.below HB.out (Nat.le_refl _)))
 have s0 := S0.out.c0
 cases hm : bmay b.rs
 ·have HV : Hid (∀ e w', e = .returned (.tuple #[.slice none 0 0, .bool false]) ∧ Below w.heap.size w w' → PutPost w b.rs e w') := Lib.hid (fun e w' h1 => by unfold PutPost; rw [hm]; exact h1)
  rw [hm] at HM
  clear hm h
  go_enter Tryz.func80, Tryz.ntmps80
  go_wp2_with fail
  refine HM.out.mono ?_
  rintro e w1 ⟨rfl, hb⟩
  have B1 := Lib.hid (HB.out.trans (hb.mono HB.out.size))
  clear hb s0
  go_wp2
  go_ret2
  exact HV.out _ _ ⟨rfl, B1.out⟩
 ·have HV : Hid (∀ e w', GivesT w (benc b.rs) e w' → PutPost w b.rs e w') := Lib.hid (fun e w' h1 => by unfold PutPost; rw [hm]; exact h1)
  obtain ⟨h10, hall, _⟩ := bmay_iff.1 hm
  rw [hm] at HM
  have HXS := Lib.hid h.2.2.2.2
  have HCELL := Lib.hid h.2.2.2.1
  have hcap := h.2.1
  simp only [maxLen] at hcap
  have hlc := h.1
  have HMAY : Hid (∀ x ∈ b.xs, x.R.may = true) := Lib.hid (fun x hx => hall x.R (List.mem_map_of_mem hx))
  have HLB := Lib.hid (fun k => flat_len (g := renc) (b := 2000) (l := b.rs.take k) fun R hR => by
   obtain ⟨x, hx, rfl⟩ := List.mem_map.1 (List.mem_of_mem_take hR)
   exact renc_len (HXS.out x hx).len (HMAY.out x hx))
  have hbl : b.rs.length = b.xs.length := by unfold Bk.rs; rw [List.length_map]
  have HBL := Lib.hid hbl
  rw [hbl] at h10
  have HHL := Lib.hid (enc_len (b.xs.length : Int)).2
  have HEQ : Hid (benc b.rs = enc b.xs.length ++ b.rs.flatMap renc) := Lib.hid (by unfold benc; rw [hbl])
  have HPG := put_gives (b.xs.length : Int)
  unfold Gives at HPG
  have HPG := Lib.hid (fun w => HPG w (by omega) (by omega))
  have hwr : IntKind.u64.wrap (b.xs.length : Int) = (b.xs.length : Int) := IntWalk.u64_in _ (by omega)
  generalize hH : enc (b.xs.length : Int) = H at *
  obtain ⟨i0, hi, hz0, hz1, hz2⟩ := info_parts infoByte
  have hz := zeroX
  clear hm h hall hbl hH
  generalize hlen : b.xs.length = len at *
  have HLN := Lib.hid hlen
  clear hlen
  go_enter Tryz.func80, Tryz.ntmps80
  go_wp2_with fail
  refine HM.out.mono ?_
  rintro e w1 ⟨rfl, hb⟩
  have B1 := Lib.hid (HB.out.trans (hb.mono HB.out.size))
  have S1 := Lib.hid (S0.out.below hb S0.out.lt)
  clear hb s0
  have s0 := S1.out.c0
  go_wp2_with fail
  refine (HPG.out _).mono ?_
  rintro e w2 ⟨A2, n2, k2, rfl, hn2, hnk2, hkm2, hown2, hb2⟩
  have B2 := Lib.hid (B1.out.trans (hb2.mono B1.out.size))
  have O2 := Lib.hid (own_wide hown2 B1.out.size)
  have s2 := (S1.out.below hb2 S1.out.lt).c0
  clear s0 hn2 hnk2 hkm2 hown2 hb2
  go_wp2
  clear s2
  go_loopw [4, 18] (fun v i wr => ∃ (k m : Nat), k ≤ len ∧ i = .int .i64 k ∧ wr.ownsRow w.heap.size 5 1 v m ((H ++ (b.rs.take k).flatMap renc).map (Value.int .u8)) ∧ Below w.heap.size w wr) (fun _ i _ => len - (intOf i).toNat)
  case atStart => exact ⟨0, n2, Nat.zero_le _, rfl, by simp only [List.take_zero, List.flatMap_nil, List.append_nil]; exact O2.out, B2.out⟩
  case round =>
   obtain ⟨k, m, hk, rfl, ho, hb⟩ := hrel
   by_cases hlt : k < len
   ·obtain ⟨b0, off, hA, hb0, hcc⟩ := HCELL.out (by omega)
    have hkl : k < b.xs.length := by rw [HLN.out]; exact hlt
    have hrec := (hcc k hlt).same (hb.block b0 hb0)
    have hix := ix_rec b0 off len b.c k hlt k rfl
    have hml : m = (H ++ (b.rs.take k).flatMap renc).length := by simpa using ho.1.symm
    have hlb := HLB.out k
    have hHH := HHL.out
    rw [List.length_take, HBL.out, Nat.min_eq_left hk] at hlb
    rw [List.length_append] at hml
    have hm9 : m ≤ 30000 := by omega
    have hmem : b.xs.getD k rcA0 ∈ b.xs := by rw [List.getD_eq_getElem?_getD, List.getElem?_eq_getElem hkl]; exact List.getElem_mem _
    have hrs : b.rs[k]? = some (b.xs.getD k rcA0).R := by
     unfold Bk.rs
     rw [List.getElem?_map, List.getD_eq_getElem?_getD, List.getElem?_eq_getElem hkl]
     rfl
    have HNX : Hid (H ++ (b.rs.take (k + 1)).flatMap renc = (H ++ (b.rs.take k).flatMap renc) ++ renc (b.xs.getD k rcA0).R) := Lib.hid (by
     rw [List.take_add_one, List.flatMap_append, hrs]
     simp)
    have HXV := Lib.hid ((HXS.out _ hmem).below hb (Nat.le_refl _))
    have hxm := HMAY.out _ hmem
    generalize b.xs.getD k rcA0 = x at *
    generalize hP : H ++ (b.rs.take k).flatMap renc = P at *
    have LX := Lib.hid hrec.load
    have HZ16 := Lib.hid HXV.out.len
    have HLR := Lib.hid (renc_len HXV.out.len hxm)
    have HO := Lib.hid ho
    have HBB := Lib.hid hb
    have HXM := Lib.hid hxm
    rw [hA]
    clear hml hlb hHH hcc ho hb hP hmem hrs hrec hxm hkl
    go_wp2_with (first | ((with_reducible refine wpList_load_by (o := ⟨some 21, .load 36 (.tmp 20), _, _, _, _⟩) ?e1 36 (.tmp 20) ?e2 ⟨b0, off + k * 19, none⟩ ?e3 _ LX.out ?_); (case e1 => rfl); (case e2 => rfl); (case e3 => rfl)) | ((with_reducible refine wpList_store_newx (o := ⟨none, .store 36 (.tmp 6) (.tmp 21), _, _, _, _⟩) (w := wr) ?e1 (.tmp 6) (.tmp 21) ?e2 wr.heap.size ?e0 ?e3 x ?e4 HZ16.out ?_); (case e1 => rfl); (case e2 => rfl); (case e0 => rfl); (case e3 => rfl); (case e4 => rfl); intro w5 hb5 hx5 hs5; have L5 := Lib.hid hx5.load; have B5 := Lib.hid (HBB.out.trans (hb5.mono HBB.out.size)); have O5 := Lib.hid (own_below HO.out hb5); have HPR0 := putRec_any x w5 (HXV.out.below hb5 (Nat.le_refl _)) HXM.out; unfold Gives at HPR0; have HPR := Lib.hid HPR0; clear hb5 hx5 hs5 HPR0) | ((with_reducible refine wpList_load_by (o := ⟨some 23, .load 36 (.tmp 6), _, _, _, _⟩) ?e1 36 (.tmp 6) ?e2 ⟨wr.heap.size, 0, none⟩ ?e3 _ L5.out ?_); (case e1 => rfl); (case e2 => rfl); (case e3 => rfl)))
    refine HPR.out.mono ?_
    rintro e w7 ⟨A7, n7, k7, rfl, hn7, hnk7, hkm7, hown7, hb7⟩
    have B7 := Lib.hid (B5.out.trans (hb7.mono B5.out.size))
    have O7 := Lib.hid (own_below O5.out hb7)
    have S7 := Lib.hid (BsAt.own hown7)
    have HN7 := Lib.hid hn7
    clear hn7 hnk7 hkm7 hown7 hb7
    go_wp2_with (at_builtin; refine wpList_append_byt _ rfl (.tmp 22) (.tmp 24) 105 rfl w.heap.size 5 i0 Tryz.underlying105 hi hz0 hz1 hz2 _ m P rfl O7.out _ A7 n7 k7 (renc x.R) rfl S7.out.1 S7.out.2.1 S7.out.2.2 (by have := HN7.out; have := HLR.out; omega) B7.out.size ?_; intro v9 w9 ho9 hg9; have O9 := Lib.hid ho9; have B10 := Lib.hid (B7.out.grown hg9 B7.out.size (fun g hg => own_base O7.out hg)); clear ho9 hg9)
    go_roundw
    case rel => exact ⟨k + 1, m + n7, by omega, by go_num, by rw [HNX.out]; exact O9.out, B10.out⟩
    case measure => simp [intOf]; omega
   ·have hkn : k = len := by omega
    subst hkn
    have t1 : ¬ (k : Int) < (k : Int) := by omega
    have HO := Lib.hid ho
    have HBB := Lib.hid hb
    clear ho hb
    go_wp2
    go_ret2
    refine HV.out _ _ ?_
    rw [HEQ.out, ← List.take_length (l := b.rs), HBL.out]
    exact givesT_own HO.out HBB.out
def z32k : List Int := List.replicate 32 0
theorem z32k_len : z32k.length = 32 := by rw [z32k, List.length_replicate]
theorem zeroDk (w : World) : (zeroValue 26).run Tryz.prog w = .ok (.agg (bvals z32k)) w := zeroD w
theorem wpList_store_digo {w : World} {ops : Array Oper} {rest : List Oper} {o : Oper} {a : Act} {Q : Exit → Act → World → Prop} (hgd : o.guard = none) (x y : Operand) (hop : o.op = .store 26 x y)
  (b : Nat) (l0 : List Int) (hb : BRow w b 26 l0) (h0 : l0.length = 32) (hx : a.eval x = .pointer (some ⟨b, 0, none⟩)) (l : List Int) (hl : l.length = 32) (hy : a.eval y = .agg (bvals l))
  (hK : ∀ w', w.grownBy w' (some b) → BRow w' b 26 l → wpList Tryz.prog ops Q rest (a.put o.dst undef) w') : wpList Tryz.prog ops Q (o :: rest) a w := by
 refine wpList_store_row hgd 26 x y hop b (bvals l) hx hy 26 _ hb (by rw [sizeD, bvals_size, hl]) (by rw [bvals_size, bvals_size, hl, h0]) (bvals_one l) ?_
 exact hK _ (grownBy_setRow w b _) (hb.put l)
theorem res_digk {fn : Func} {p : Tmp} (h : fn.results = #[.cell p 26]) {tmps : Array Value} {w : World} {b : Nat} {l : List Int} (hp : tmps.getD p undef = .pointer (some ⟨b, 0, none⟩)) (hs : BRow w b 26 l) (hl : l.length = 32) :
  (results fn tmps).run Tryz.prog w = .ok (.agg (bvals l)) w := by
 have hp' : tmps[p]?.getD undef = .pointer (some ⟨b, 0, none⟩) := by simpa using hp
 have hld : (loadVar 26 ⟨b, 0, none⟩).run Tryz.prog w = .ok (.agg (bvals l)) w := run_loadVar_row w b 26 26 _ (0, 0) _ hs Tryz.underlying26 rfl (by rw [sizeD, bvals_size, hl])
 simp [results, h, hp', asAddr, hld]
def bbs (X : List Rc) : List Int := if bmay X then benc X else []
set_option maxHeartbeats 4000000 in
theorem digest_any (b : Bk) (w : World) (hlaid : Laid w) (h : BkAt w b) : Calls Tryz.prog 50 #[.agg #[.slice b.A b.xs.length b.c]] w (DSumPost (bbs b.rs) w) := by
 have S0 := Lib.hid ((BoAt.new w (.slice b.A b.xs.length b.c)).old (.cells (bvals z32k) 26))
 have HB := Lib.hid (((Below.refl w.heap.size w).alloc (Nat.le_refl _) (.cells #[.slice b.A b.xs.length b.c] 24)).alloc (by simp) (.cells (bvals z32k) 26))
 have d0 := BRow.new (w.alloc (.cells #[.slice b.A b.xs.length b.c] 24)) 26 z32k
 rw [World.size_alloc] at d0
 have D0 := Lib.hid d0
 have HP := put_book b _ (h.below HB.out (Nat.le_refl _))
 have s0 := S0.out.c0
 have hz := zeroDk
 have HLA := Lib.hid (fun (X : World) (hX : Below w.heap.size w X) => hlaid.below hX (Nat.le_refl _))
 have HLEN := Lib.hid (SH.sum_len (bbs b.rs))
 have HV : Hid (∀ w', Below w.heap.size w w' → DSumPost (bbs b.rs) w (.returned (.agg (bvals (SH.sum (bbs b.rs))))) w') := Lib.hid (fun w' h => ⟨rfl, h⟩)
 have hok := bk_ok h
 clear hlaid d0
 cases hm : bmay b.rs
 ·have HX := Lib.hid (show bbs b.rs = [] by unfold bbs; rw [hm]; rfl)
  unfold PutPost at HP
  simp only [hm, Bool.false_eq_true, if_false] at HP
  rw [HX.out] at HV HLEN
  have HP := Lib.hid HP
  clear hm h hok
  generalize hS : SH.sum [] = D at *
  rw [HX.out]
  go_enter Tryz.func50, Tryz.ntmps50
  go_wp2_with fail
  refine HP.out.mono ?_
  rintro e w1 ⟨rfl, hb⟩
  have B1 := Lib.hid (HB.out.trans (hb.mono HB.out.size))
  have D1 := Lib.hid (D0.out.below hb D0.out.lt)
  have HSU0 := dsum_any (B := 0) none 0 0 [] w1 (HLA.out _ B1.out) Byt.nil rfl (Nat.le_refl _) (by decide) (by decide) (fun _ => rfl) (fun z hz => by cases hz) (Nat.zero_le _)
  unfold DSumPost at HSU0
  rw [hS] at HSU0
  have HSU := Lib.hid HSU0
  clear hb s0 HSU0
  go_wp2_with fail
  refine HSU.out.mono ?_
  rintro e w2 ⟨rfl, hb⟩
  have B2 := Lib.hid (B1.out.trans (hb.mono B1.out.size))
  have D2 := Lib.hid (D1.out.below hb D1.out.lt)
  clear hb
  go_wp2_with (first | ((with_reducible refine wpList_store_digo (o := ⟨none, .store 26 (.tmp 2) (.tmp 11), _, _, _, _⟩) ?e1 (.tmp 2) (.tmp 11) ?e2 (w.heap.size + 1) _ D2.out z32k_len ?e3 D HLEN.out ?e4 ?_); (case e1 => rfl); (case e2 => rfl); (case e3 => rfl); (case e4 => rfl); intro w9 hg9 hx9; have X9 := Lib.hid hx9; have B9 := Lib.hid (B2.out.grown hg9 B2.out.size (fun k e => by have := Option.some.inj e; omega)); clear hg9 hx9))
  refine bodyPost_ret (v := .agg (bvals D)) ?_ rfl ?_
  ·exact res_digk Tryz.results50 rfl X9.out HLEN.out
  ·exact HV.out _ B9.out
 ·have HX := Lib.hid (show bbs b.rs = benc b.rs by unfold bbs; rw [hm]; rfl)
  unfold PutPost GivesT at HP
  simp only [hm, if_true] at HP
  rw [HX.out] at HV HLEN
  have HP := Lib.hid HP
  have HBY := Lib.hid (benc_bytes hm hok)
  have HBL := Lib.hid (benc_len hm fun R hR => (hok R hR).1)
  rw [HX.out]
  clear hm h hok
  generalize benc b.rs = Z at *
  generalize hS : SH.sum Z = D at *
  go_enter Tryz.func50, Tryz.ntmps50
  go_wp2_with fail
  refine HP.out.mono ?_
  rintro e w1 ⟨A1, n1, k1, rfl, hn1, hnk1, hkm1, hown1, hb⟩
  have B1 := Lib.hid (HB.out.trans (hb.mono HB.out.size))
  have D1 := Lib.hid (D0.out.below hb D0.out.lt)
  have hbs := BsAt.own hown1
  have HSU0 := dsum_any A1 n1 k1 Z w1 (HLA.out _ B1.out) hbs.1 hn1 hnk1 hkm1 (by have := HBL.out; omega) hbs.2.2 HBY.out (Nat.le_refl _)
  unfold DSumPost at HSU0
  rw [hS] at HSU0
  have HSU := Lib.hid HSU0
  clear hb s0 HSU0 hn1 hnk1 hkm1 hown1 hbs
  go_wp2_with fail
  refine HSU.out.mono ?_
  rintro e w2 ⟨rfl, hb⟩
  have B2 := Lib.hid (B1.out.trans (hb.mono B1.out.size))
  have D2 := Lib.hid (D1.out.below hb D1.out.lt)
  clear hb
  go_wp2_with (first | ((with_reducible refine wpList_store_digo (o := ⟨none, .store 26 (.tmp 2) (.tmp 11), _, _, _, _⟩) ?e1 (.tmp 2) (.tmp 11) ?e2 (w.heap.size + 1) _ D2.out z32k_len ?e3 D HLEN.out ?e4 ?_); (case e1 => rfl); (case e2 => rfl); (case e3 => rfl); (case e4 => rfl); intro w9 hg9 hx9; have X9 := Lib.hid hx9; have B9 := Lib.hid (B2.out.grown hg9 B2.out.size (fun k e => by have := Option.some.inj e; omega)); clear hg9 hx9))
  refine bodyPost_ret (v := .agg (bvals D)) ?_ rfl ?_
  ·exact res_digk Tryz.results50 rfl X9.out HLEN.out
  ·exact HV.out _ B9.out
end
end
end Go.Proofs.YtnlhkpmgbpfjmaaGreatDoor
