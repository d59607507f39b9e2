import Derived.Test.YtbkopnpafmjicaaGreatDoorQ0
import Derived.Test.YtbkopnpafmjicaaGreatDoorQ1
import Derived.Test.YtbkopnpafmjicaaGreatDoorQ8
import Derived.Test.YtbkopnpafmjicaaGreatDoorQ14
import Derived.ProofKit
import Derived.OpenShut
import Derived.ChangeSame
import Derived.Lib.SmallJoins
import Derived.Deep.Slices
import Derived.Deep.Strs
import Derived.Test.YtbkopnpafmjicaaGreatDoorQ13
import Derived.Test.YtbkopnpafmjicaaGreatDoorQ38
import Derived.Test.YtbkopnpafmjicaaGreatDoorQ16
import Derived.Test.YtbkopnpafmjicaaGreatDoorQ12
import Derived.Test.YtbkopnpafmjicaaGreatDoorQ6
/-
  What the functions that a law of this layer reaches answer, part 39. Nothing that was there is written.
-/
namespace Go.Proofs.YtbkopnpafmjicaaGreatDoor
set_option linter.unusedVariables false
set_option linter.unusedSimpArgs false
section
section
open Go.ChangeShapes Go.WideShapes Go.ChangeAt Go.RowKit Go.Joins WM
set_option maxRecDepth 40000
def IsCel (c : Cel) : Prop := (Lit.int .i64 c.n).wf = true ∧ (Lit.int .i64 c.r).wf = true ∧ c.s.size ≤ maxLen
theorem cell_trod {H : Type} {enc : TypeId × Value → H} {W : World} {base : Nat} {spare : Nat → Bool} {held : Bool} {fuel : Nat} {c0 c1 c2 : Value} {x : DataW H × List MemPlace}
  (hf : DataW.trod enc Tryz.prog W base spare held fuel 62 [c0, c1, c2] = some x) : ∃ c : Cel, IsCel c ∧ c0 = .int .i64 c.n ∧ c1 = .int .i64 c.r ∧ c2 = .string c.s := by
 obtain ⟨y0, y1, m, _, _, h0, h1⟩ := trod_struct2 Tryz.underlying62 hf
 have k0 : Tryz.prog.cellsOf 40 = 2 := by kernel_rfl
 have k1 : Tryz.prog.cellsOf 9 = 1 := by kernel_rfl
 have k2 : Tryz.prog.cellsOf 3 = 1 := by kernel_rfl
 dsimp only at h0 h1
 rw [k0] at h0
 rw [k1] at h1
 obtain ⟨z0, z1, m', _, _, g0, g1⟩ := trod_struct2 Tryz.underlying40 h0
 dsimp only at g0 g1
 rw [k2] at g0 g1
 obtain ⟨n0, e0, _, w0⟩ := DataW.trod_int Tryz.underlying3 g0
 obtain ⟨n1, e1, _, w1⟩ := DataW.trod_int Tryz.underlying3 g1
 obtain ⟨s, e2, _, w2⟩ := DataW.trod_string Tryz.underlying9 h1
 simp at e0 e1 e2
 subst e0 e1 e2
 exact ⟨⟨n0, n1, s⟩, ⟨w0, w1, w2⟩, rfl, rfl, rfl⟩
end
section
open Go.ChangeShapes Go.WideShapes Go.ChangeAt Go.RowKit Go.Deep WM
set_option maxRecDepth 40000
theorem cells_at {w : World} {a : Addr} {n : Nat} {cs : List Value} (h : w.cells? 0 a n = some cs) : cs.length = n ∧ ∀ k, k < n → w.cell? (a.add k) = cs[k]? := by
 obtain ⟨hb, hl, h2⟩ := World.cells?_some h
 exact ⟨hl, h2⟩
end
section
open Go.ChangeShapes Go.WideShapes Go.ChangeAt Go.RowKit Go.Joins Go.Deep WM
def IsFld (f : Fld) : Prop := (Lit.int .i64 f.no).wf = true ∧ IsCel f.c
def IsRec (W : World) (R : Rc) (A : Option Addr) (c : Nat) : Prop :=
 R.Ok ∧ FsAt W A c R.fs ∧ (Lit.int .i64 R.n).wf = true ∧ (Lit.int .i64 R.r).wf = true ∧ ∀ f ∈ R.fs, IsFld f
section
variable {H : Type} {enc : TypeId × Value → H} {W : World} {base : Nat} {spare : Nat → Bool} {held : Bool}
theorem id_trod {fuel : Nat} {cs : List Value} {x : DataW H × List MemPlace} (hf : DataW.trod enc Tryz.prog W base spare held fuel 38 cs = some x) : ∃ z : List Int, cs = z.map (Value.int .u8) ∧ z.length = 16 ∧ AllBytes z := by
 have ce : Tryz.prog.cellsOf 5 = 1 := by kernel_rfl
 have ct : Tryz.prog.cellsOf 38 = 16 := by kernel_rfl
 obtain ⟨ys, m, rfl, hx, hcl, hyl, hall⟩ := DataW.trod_array Tryz.underlying38 hf
 have hlen : cs.length = 16 := by rw [hcl, ct]
 have key : ∀ (i : Nat) (hi : i < cs.length), ∃ n : Int, cs[i] = .int .u8 n ∧ 0 ≤ n ∧ n ≤ 255 := fun i hi => by
  have h1 := hall i (by omega)
  rw [ce, Nat.mul_one, List.getElem?_eq_getElem (by omega)] at h1
  obtain ⟨n, hc, _, hw⟩ := DataW.trod_int Tryz.underlying5 h1
  refine ⟨n, ?_, (bounds_u8 hw).1, (bounds_u8 hw).2⟩
  have h2 := congrArg (fun l => l[0]?) hc
  have h3 : cs[i]? = some (.int .u8 n) := by simpa [Value.cells, List.getElem?_take, List.getElem?_drop] using h2
  exact (List.getElem?_eq_some_iff.1 h3).2
 refine ⟨cs.map intOf, ?_, by rw [List.length_map, hlen], fun z hz => ?_⟩
 ·rw [List.map_map]
  apply List.ext_getElem
  ·simp
  ·intro i h1 h2
   obtain ⟨n, hn, _⟩ := key i h1
   simp only [List.getElem_map, Function.comp]
   rw [hn]
   rfl
 ·obtain ⟨v, hv, rfl⟩ := List.mem_map.1 hz
  obtain ⟨i, hi, rfl⟩ := List.getElem_of_mem hv
  obtain ⟨n, hn, h0, h1⟩ := key i hi
  rw [hn]
  exact ⟨h0, h1⟩
theorem st_trod {fuel : Nat} {c0 c1 : Value} {x : DataW H × List MemPlace} (hf : DataW.trod enc Tryz.prog W base spare held fuel 40 [c0, c1] = some x) :
  ∃ n r : Int, c0 = .int .i64 n ∧ c1 = .int .i64 r ∧ (Lit.int .i64 n).wf = true ∧ (Lit.int .i64 r).wf = true := by
 have k2 : Tryz.prog.cellsOf 3 = 1 := by kernel_rfl
 obtain ⟨z0, z1, m', _, _, g0, g1⟩ := trod_struct2 Tryz.underlying40 hf
 dsimp only at g0 g1
 rw [k2] at g0 g1
 obtain ⟨n0, e0, _, w0⟩ := DataW.trod_int Tryz.underlying3 g0
 obtain ⟨n1, e1, _, w1⟩ := DataW.trod_int Tryz.underlying3 g1
 simp at e0 e1
 subst e0 e1
 exact ⟨n0, n1, rfl, rfl, w0, w1⟩
set_option maxRecDepth 20000 in
theorem fld_trod {fuel : Nat} {c0 c1 c2 c3 : Value} {x : DataW H × List MemPlace} (hf : DataW.trod enc Tryz.prog W base spare held fuel 80 [c0, c1, c2, c3] = some x) :
  ∃ f : Fld, IsFld f ∧ c0 = .int .i64 f.no ∧ c1 = .int .i64 f.c.n ∧ c2 = .int .i64 f.c.r ∧ c3 = .string f.c.s := by
 have k2 : Tryz.prog.cellsOf 3 = 1 := by kernel_rfl
 have k3 : Tryz.prog.cellsOf 62 = 3 := by kernel_rfl
 obtain ⟨z0, z1, m', _, _, g0, g1⟩ := trod_struct2 Tryz.underlying80 hf
 dsimp only at g0 g1
 rw [k2] at g0
 rw [k3] at g1
 obtain ⟨n0, e0, _, w0⟩ := DataW.trod_int Tryz.underlying3 g0
 simp at e0
 subst e0
 obtain ⟨c, hc, h0, h1, h2⟩ := cell_trod (c0 := c1) (c1 := c2) (c2 := c3) (by simpa using g1)
 exact ⟨⟨n0, c⟩, ⟨w0, hc⟩, rfl, h0, h1, h2⟩
end
theorem list19 {l : List Value} (h : l.length = 19) : ∃ z x y s, l = z ++ [x, y, s] ∧ z.length = 16 := by
 refine ⟨l.take 16, l.getD 16 undef, l.getD 17 undef, l.getD 18 undef, ?_, by rw [List.length_take]; omega⟩
 apply List.ext_getElem?
 intro i
 rcases Nat.lt_or_ge i 16 with h1 | h1
 ·rw [List.getElem?_append_left (by rw [List.length_take]; omega), List.getElem?_take, if_pos h1]
 ·rw [List.getElem?_append_right (by rw [List.length_take]; omega), List.length_take, h]
  have h2 : i = 16 ∨ i = 17 ∨ i = 18 ∨ 19 ≤ i := by omega
  rcases h2 with rfl | rfl | rfl | h2
  ·simp [List.getD, h]
  ·simp [List.getD, h]
  ·simp [List.getD, h]
  ·rw [List.getElem?_eq_none (by omega), List.getElem?_eq_none (by simp; omega)]
set_option maxRecDepth 20000 in
theorem open_rec {H : Type} {enc : TypeId × Value → H} {W : World} {r : Reach} {b0 : Nat} {v : Value} {d : DataW H} {p : List MemPlace}
  (hv : Value.okWide Tryz.prog W r b0 58 v) (h : DataW.Trod enc Tryz.prog W 0 (fun _ => true) true 58 v d p) : ∃ R A c, v = R.v A c ∧ IsRec W R A c := by
 obtain ⟨cs, rfl, hsz⟩ := okWide_struct Tryz.underlying58 hv
 have k19 : Tryz.prog.cellsOf 58 = 19 := by kernel_rfl
 have k16 : Tryz.prog.cellsOf 38 = 16 := by kernel_rfl
 have k2 : Tryz.prog.cellsOf 40 = 2 := by kernel_rfl
 have k1 : Tryz.prog.cellsOf 56 = 1 := by kernel_rfl
 have k4 : Tryz.prog.cellsOf 80 = 4 := by kernel_rfl
 obtain ⟨fuel, hf⟩ := h
 obtain ⟨zs, x, y, s, hcs, hz⟩ := list19 (l := cs.toList) ((Array.length_toList).trans (hsz.trans k19))
 have hc2 : (Value.agg cs).cells.toList = zs ++ [x, y, s] := hcs
 rw [hc2] at hf
 obtain ⟨y0, y1, y2, m, _, _, h0, h1, h2⟩ := trod_struct3 Tryz.underlying58 hf
 dsimp only at h0 h1 h2
 rw [k16, List.drop_zero, ← hz, List.take_left] at h0
 have e1 : ((zs ++ [x, y, s]).drop 16).take 2 = [x, y] := by rw [← hz, List.drop_left]; rfl
 have e2 : ((zs ++ [x, y, s]).drop 18).take 1 = [s] := by
  rw [show zs ++ [x, y, s] = (zs ++ [x, y]) ++ [s] by simp, show 18 = (zs ++ [x, y]).length by simp [hz], List.drop_left]
  rfl
 rw [k2, e1] at h1
 rw [k1, e2] at h2
 obtain ⟨z, rfl, hz16, hzb⟩ := id_trod h0
 obtain ⟨n, q, rfl, rfl, wn, wr⟩ := st_trod h1
 have fin : ∀ (A : Option Addr) (c len : Nat) (F : Nat → Fld), s = .slice A len c → len ≤ c → c ≤ maxLen → (A = none → c = 0) → (∀ i, i < len → IsFld (F i)) →
   (0 < len → ∃ b off, A = some ⟨b, off, none⟩ ∧ b < W.heap.size ∧ ∀ i, i < len → W.cell? ⟨b, off + i * 4, none⟩ = some (.int .i64 (F i).no) ∧ W.cell? ⟨b, off + i * 4 + 1, none⟩ = some (.int .i64 (F i).c.n) ∧ W.cell? ⟨b, off + i * 4 + 2, none⟩ = some (.int .i64 (F i).c.r) ∧ W.cell? ⟨b, off + i * 4 + 3, none⟩ = some (.string (F i).c.s)) →
   ∃ R A c, Value.agg cs = Rc.v R A c ∧ IsRec W R A c := by
  intro A c len F hs hlc hcm hn hF hcell
  have hl : ((List.range len).map F).length = len := by simp
  have hg : ∀ i, i < len → ((List.range len).map F).getD i fld0 = F i := fun i hi => by simp [List.getD, hi]
  refine ⟨⟨z, n, q, (List.range len).map F⟩, A, c, ?_, ⟨hz16, hzb⟩, ⟨by rw [hl]; exact hlc, hcm, hn, fun h0 => ?_⟩, wn, wr, fun f hf => ?_⟩
  ·unfold Rc.v rv rcells
   dsimp only
   rw [hl, ← hs, ← hcs]
  ·rw [hl] at h0
   obtain ⟨b, off, hA, hb, hc⟩ := hcell h0
   refine ⟨b, off, hA, hb, fun i hi => ?_⟩
   rw [hl] at hi
   dsimp only
   rw [hg i hi]
   exact hc i hi
  ·obtain ⟨i, hi, rfl⟩ := List.mem_map.1 hf
   exact hF i (by simpa using hi)
 rcases open_slice Tryz.underlying56 h2 with ⟨hcs', _⟩ | ⟨ad, len', cap', m', n', D, Pl, hcs', _, hl, hm, hmm, _, hall⟩
 ·obtain rfl : s = .slice none 0 0 := by simpa using hcs'
  exact fin none 0 0 (fun _ => fld0) rfl (Nat.le_refl _) (by decide) (fun _ => rfl) (fun i hi => by omega) (fun h => by omega)
 ·obtain rfl : s = .slice (some ad) len' cap' := by simpa using hcs'
  have key : ∀ i, ∃ f : Fld, i < len' → IsFld f ∧ W.cell? (ad.add (i * 4)) = some (.int .i64 f.no) ∧ W.cell? (ad.add (i * 4 + 1)) = some (.int .i64 f.c.n) ∧ W.cell? (ad.add (i * 4 + 2)) = some (.int .i64 f.c.r) ∧ W.cell? (ad.add (i * 4 + 3)) = some (.string f.c.s) := fun i => by
   by_cases hi : i < len'
   ·obtain ⟨us, hc, hd⟩ := hall i (by rw [hmm]; simp; omega)
    rw [k4] at hc
    obtain ⟨hlen, hat⟩ := cells_at hc
    match us, hlen with
    | [u0, u1, u2, u3], _ =>
     obtain ⟨f, hff, rfl, rfl, rfl, rfl⟩ := fld_trod hd
     refine ⟨f, fun _ => ⟨hff, ?_, ?_, ?_, ?_⟩⟩
     ·have := hat 0 (by omega)
      rwa [add_add] at this
     ·have := hat 1 (by omega)
      rwa [add_add] at this
     ·have := hat 2 (by omega)
      rwa [add_add] at this
     ·have := hat 3 (by omega)
      rwa [add_add] at this
   ·exact ⟨fld0, fun h => absurd h hi⟩
  obtain ⟨F, hFF⟩ : ∃ F : Nat → Fld, ∀ i, i < len' → IsFld (F i) ∧ W.cell? (ad.add (i * 4)) = some (.int .i64 (F i).no) ∧ W.cell? (ad.add (i * 4 + 1)) = some (.int .i64 (F i).c.n) ∧ W.cell? (ad.add (i * 4 + 2)) = some (.int .i64 (F i).c.r) ∧ W.cell? (ad.add (i * 4 + 3)) = some (.string (F i).c.s) := ⟨fun i => (key i).choose, fun i => (key i).choose_spec⟩
  clear key
  refine fin (some ad) cap' len' F rfl hl hm (fun h => by cases h) (fun i hi => (hFF i hi).1) (fun h0 => ?_)
  obtain ⟨b, off, spot⟩ := ad
  have h00 := (hFF 0 h0).2.1
  have hspot : spot = none := by simpa [Addr.add] using World.cell?_spot h00
  subst hspot
  have hlt : b < W.heap.size := by
   rcases Nat.lt_or_ge b W.heap.size with h2 | h2
   ·exact h2
   ·rw [Addr.add_lit, World.cell?] at h00
    rw [Array.getElem?_eq_none h2] at h00
    cases h00
  refine ⟨b, off, rfl, hlt, fun i hi => ?_⟩
  obtain ⟨_, g1, g2, g3, g4⟩ := hFF i hi
  rw [Addr.add_lit] at g1 g2 g3 g4
  exact ⟨g1, g2, g3, g4⟩
end
section
open Go.ChangeShapes Go.WideShapes Go.ChangeAt Go.RowKit Go.Joins Go.Deep WM
set_option maxRecDepth 40000
set_option maxHeartbeats 1000000 in
theorem rec_trod {H : Type} {enc : TypeId × Value → H} {W : World} {fuel : Nat} {l : List Value} {x : DataW H × List MemPlace} (hlen : l.length = 19) (hf : DataW.trod enc Tryz.prog W 0 (fun _ => true) true fuel 58 l = some x) :
  ∃ R A c, l = (rcells R.z R.n R.r (.slice A R.fs.length c)).toList ∧ IsRec W R A c := by
 have k16 : Tryz.prog.cellsOf 38 = 16 := by kernel_rfl
 have k2 : Tryz.prog.cellsOf 40 = 2 := by kernel_rfl
 have k1 : Tryz.prog.cellsOf 56 = 1 := by kernel_rfl
 have k4 : Tryz.prog.cellsOf 80 = 4 := by kernel_rfl
 obtain ⟨zs, x, y, s, hcs, hz⟩ := list19 hlen
 rw [hcs] at hf
 obtain ⟨y0, y1, y2, m, _, _, h0, h1, h2⟩ := trod_struct3 Tryz.underlying58 hf
 dsimp only at h0 h1 h2
 rw [k16, List.drop_zero, ← hz, List.take_left] at h0
 have e1 : ((zs ++ [x, y, s]).drop 16).take 2 = [x, y] := by rw [← hz, List.drop_left]; rfl
 have e2 : ((zs ++ [x, y, s]).drop 18).take 1 = [s] := by
  rw [show zs ++ [x, y, s] = (zs ++ [x, y]) ++ [s] by simp, show 18 = (zs ++ [x, y]).length by simp [hz], List.drop_left]
  rfl
 rw [k2, e1] at h1
 rw [k1, e2] at h2
 obtain ⟨z, rfl, hz16, hzb⟩ := id_trod h0
 obtain ⟨n, q, rfl, rfl, wn, wr⟩ := st_trod h1
 have fin : ∀ (A : Option Addr) (c len : Nat) (F : Nat → Fld), s = .slice A len c → len ≤ c → c ≤ maxLen → (A = none → c = 0) → (∀ i, i < len → IsFld (F i)) →
   (0 < len → ∃ b off, A = some ⟨b, off, none⟩ ∧ b < W.heap.size ∧ ∀ i, i < len → W.cell? ⟨b, off + i * 4, none⟩ = some (.int .i64 (F i).no) ∧ W.cell? ⟨b, off + i * 4 + 1, none⟩ = some (.int .i64 (F i).c.n) ∧ W.cell? ⟨b, off + i * 4 + 2, none⟩ = some (.int .i64 (F i).c.r) ∧ W.cell? ⟨b, off + i * 4 + 3, none⟩ = some (.string (F i).c.s)) →
   ∃ R A c, l = (rcells R.z R.n R.r (.slice A R.fs.length c)).toList ∧ IsRec W R A c := by
  intro A c len F hs hlc hcm hn hF hcell
  have hl : ((List.range len).map F).length = len := by simp
  have hg : ∀ i, i < len → ((List.range len).map F).getD i fld0 = F i := fun i hi => by simp [List.getD, hi]
  refine ⟨⟨z, n, q, (List.range len).map F⟩, A, c, ?_, ⟨hz16, hzb⟩, ⟨by rw [hl]; exact hlc, hcm, hn, fun h0 => ?_⟩, wn, wr, fun f hf => ?_⟩
  ·unfold rcells
   dsimp only
   rw [hl, ← hs, hcs]
  ·rw [hl] at h0
   obtain ⟨b, off, hA, hb, hc⟩ := hcell h0
   refine ⟨b, off, hA, hb, fun i hi => ?_⟩
   rw [hl] at hi
   dsimp only
   rw [hg i hi]
   exact hc i hi
  ·obtain ⟨i, hi, rfl⟩ := List.mem_map.1 hf
   exact hF i (by simpa using hi)
 rcases open_slice Tryz.underlying56 h2 with ⟨hcs', _⟩ | ⟨ad, len', cap', m', n', D, Pl, hcs', _, hl, hm, hmm, _, hall⟩
 ·obtain rfl : s = .slice none 0 0 := by simpa using hcs'
  exact fin none 0 0 (fun _ => fld0) rfl (Nat.le_refl _) (by decide) (fun _ => rfl) (fun i hi => by omega) (fun h => by omega)
 ·obtain rfl : s = .slice (some ad) len' cap' := by simpa using hcs'
  have key : ∀ i, ∃ f : Fld, i < len' → IsFld f ∧ W.cell? (ad.add (i * 4)) = some (.int .i64 f.no) ∧ W.cell? (ad.add (i * 4 + 1)) = some (.int .i64 f.c.n) ∧ W.cell? (ad.add (i * 4 + 2)) = some (.int .i64 f.c.r) ∧ W.cell? (ad.add (i * 4 + 3)) = some (.string f.c.s) := fun i => by
   by_cases hi : i < len'
   ·obtain ⟨us, hc, hd⟩ := hall i (by rw [hmm]; simp; omega)
    rw [k4] at hc
    obtain ⟨hlen, hat⟩ := cells_at hc
    match us, hlen with
    | [u0, u1, u2, u3], _ =>
     obtain ⟨f, hff, rfl, rfl, rfl, rfl⟩ := fld_trod hd
     refine ⟨f, fun _ => ⟨hff, ?_, ?_, ?_, ?_⟩⟩
     ·have := hat 0 (by omega)
      rwa [add_add] at this
     ·have := hat 1 (by omega)
      rwa [add_add] at this
     ·have := hat 2 (by omega)
      rwa [add_add] at this
     ·have := hat 3 (by omega)
      rwa [add_add] at this
   ·exact ⟨fld0, fun h => absurd h hi⟩
  obtain ⟨F, hFF⟩ : ∃ F : Nat → Fld, ∀ i, i < len' → IsFld (F i) ∧ W.cell? (ad.add (i * 4)) = some (.int .i64 (F i).no) ∧ W.cell? (ad.add (i * 4 + 1)) = some (.int .i64 (F i).c.n) ∧ W.cell? (ad.add (i * 4 + 2)) = some (.int .i64 (F i).c.r) ∧ W.cell? (ad.add (i * 4 + 3)) = some (.string (F i).c.s) := ⟨fun i => (key i).choose, fun i => (key i).choose_spec⟩
  clear key
  refine fin (some ad) cap' len' F rfl hl hm (fun h => by cases h) (fun i hi => (hFF i hi).1) (fun hpos => ?_)
  obtain ⟨b, off, spot⟩ := ad
  have h00 := (hFF 0 hpos).2.1
  have hspot : spot = none := by simpa [Addr.add] using World.cell?_spot h00
  subst hspot
  have hlt : b < W.heap.size := by
   rcases Nat.lt_or_ge b W.heap.size with h2 | h2
   ·exact h2
   ·rw [Addr.add_lit, World.cell?] at h00
    rw [Array.getElem?_eq_none h2] at h00
    cases h00
  refine ⟨b, off, rfl, hlt, fun i hi => ?_⟩
  obtain ⟨_, g1, g2, g3, g4⟩ := hFF i hi
  rw [Addr.add_lit] at g1 g2 g3 g4
  exact ⟨g1, g2, g3, g4⟩
set_option maxHeartbeats 1000000 in
theorem open_bk {H : Type} {enc : TypeId × Value → H} {W : World} {r : Reach} {b0 : Nat} {v : Value} {d : DataW H} {p : List MemPlace}
  (hv : Value.okWide Tryz.prog W r b0 24 v) (h : DataW.Trod enc Tryz.prog W 0 (fun _ => true) true 24 v d p) : ∃ b : Bk, v = .agg #[.slice b.A b.xs.length b.c] ∧ BkAt W b := by
 obtain ⟨cs, rfl, hsz⟩ := okWide_struct Tryz.underlying24 hv
 have k1 : Tryz.prog.cellsOf 24 = 1 := by kernel_rfl
 have k19 : Tryz.prog.cellsOf 58 = 19 := by kernel_rfl
 have ks : Tryz.prog.cellsOf 22 = 1 := by kernel_rfl
 obtain ⟨fuel, hf⟩ := h
 have hl : cs.toList.length = 1 := (Array.length_toList).trans (hsz.trans k1)
 obtain ⟨s, hcs⟩ : ∃ s, cs.toList = [s] := by
  match hm : cs.toList, hl with
  | [s], _ => exact ⟨s, rfl⟩
 have hca : cs = #[s] := by rw [← Array.toArray_toList (xs := cs), hcs]
 have hc : (Value.agg cs).cells.toList = [s] := hcs
 rw [hc] at hf
 obtain ⟨y0, m, _, _, h0⟩ := trod_struct1 Tryz.underlying24 hf
 dsimp only at h0
 rw [ks, List.drop_zero, List.take_of_length_le (by simp)] at h0
 have fin : ∀ (A : Option Addr) (c len : Nat) (F : Nat → RcA), s = .slice A len c → len ≤ c → c ≤ maxLen → (A = none → c = 0) → (∀ i, i < len → RvAt W (F i)) →
   (0 < len → ∃ b off, A = some ⟨b, off, none⟩ ∧ b < W.heap.size ∧ ∀ i, i < len → RecAt W b (off + i * 19) (F i)) → ∃ b : Bk, Value.agg cs = .agg #[.slice b.A b.xs.length b.c] ∧ BkAt W b := by
  intro A c len F hs hlc hcm hn hF hcell
  have hl : ((List.range len).map F).length = len := by simp
  have hg : ∀ i, i < len → ((List.range len).map F).getD i rcA0 = F i := fun i hi => by simp [List.getD, hi]
  refine ⟨⟨(List.range len).map F, A, c⟩, ?_, by rw [hl]; exact hlc, hcm, hn, fun h0 => ?_, fun x hx => ?_⟩
  ·dsimp only
   rw [hl, ← hs, hca]
  ·dsimp only at h0
   rw [hl] at h0
   obtain ⟨b, off, hA, hb, hc⟩ := hcell h0
   refine ⟨b, off, hA, hb, fun i hi => ?_⟩
   dsimp only at hi ⊢
   rw [hl] at hi
   rw [hg i hi]
   exact hc i hi
  ·obtain ⟨i, hi, rfl⟩ := List.mem_map.1 hx
   exact hF i (by simpa using hi)
 rcases open_slice Tryz.underlying22 h0 with ⟨hcs', _⟩ | ⟨ad, len', cap', m', n', D, Pl, hcs', _, hl, hm, hmm, _, hall⟩
 ·obtain rfl : s = .slice none 0 0 := by simpa using hcs'
  exact fin none 0 0 (fun _ => rcA0) rfl (Nat.le_refl _) (by decide) (fun _ => rfl) (fun i hi => by omega) (fun h => by omega)
 ·obtain rfl : s = .slice (some ad) len' cap' := by simpa using hcs'
  have key : ∀ i, ∃ x : RcA, i < len' → RvAt W x ∧ ∀ j, j < 19 → W.cell? (ad.add (i * 19 + j)) = x.cs[j]? := fun i => by
   by_cases hi : i < len'
   ·obtain ⟨us, hc, hd⟩ := hall i (by rw [hmm]; simp; omega)
    rw [k19] at hc
    obtain ⟨hlen, hat⟩ := cells_at hc
    obtain ⟨R, A, c, he, hr⟩ := rec_trod hlen hd
    refine ⟨⟨R, A, c⟩, fun _ => ⟨⟨hr.1, hr.2.1⟩, fun j hj => ?_⟩⟩
    have h2 := hat j hj
    rw [add_add] at h2
    rw [h2]
    show _ = (rcells R.z R.n R.r (.slice A R.fs.length c)).toList[j]?
    rw [← he]
   ·exact ⟨rcA0, fun h => absurd h hi⟩
  obtain ⟨F, hFF⟩ : ∃ F : Nat → RcA, ∀ i, i < len' → RvAt W (F i) ∧ ∀ j, j < 19 → W.cell? (ad.add (i * 19 + j)) = (F i).cs[j]? := ⟨fun i => (key i).choose, fun i => (key i).choose_spec⟩
  clear key
  refine fin (some ad) cap' len' F rfl hl hm (fun h => by cases h) (fun i hi => (hFF i hi).1) (fun hpos => ?_)
  obtain ⟨b, off, spot⟩ := ad
  have h00 := (hFF 0 hpos).2 0 (by omega)
  rw [List.getElem?_eq_getElem (by rw [cs_len (hFF 0 hpos).1.len]; omega)] at h00
  have hspot : spot = none := by simpa [Addr.add] using World.cell?_spot h00
  subst hspot
  have hlt : b < W.heap.size := by
   rcases Nat.lt_or_ge b W.heap.size with h2 | h2
   ·exact h2
   ·rw [Addr.add_lit, World.cell?] at h00
    rw [Array.getElem?_eq_none h2] at h00
    cases h00
  refine ⟨b, off, rfl, hlt, fun i hi => ⟨(hFF i hi).1.len, fun j hj => ?_⟩⟩
  have := (hFF i hi).2 j hj
  rw [Addr.add_lit] at this
  rw [← this]
  congr 2
  omega
end
end
section
open Go.ChangeShapes Go.WideShapes Go.ChangeAt Go.RowKit Go.Deep WM
set_option maxRecDepth 40000
section
variable {H : Type} {enc : TypeId × Value → H} {W : World}
theorem trod_struct5 {P : Program} {base : Nat} {spare : Nat → Bool} {held : Bool} {t : TypeId} {f0 f1 f2 f3 f4 : Field} {fuel : Nat} {cs : List Value} {x : DataW H × List MemPlace} (ht : P.underlying t = some (.struct #[f0, f1, f2, f3, f4])) (h : DataW.trod enc P W base spare held fuel t cs = some x) :
  ∃ y0 y1 y2 y3 y4 n, DataW.trod enc P W base spare held n f0.type ((cs.drop f0.offset).take (P.cellsOf f0.type)) = some y0 ∧
   DataW.trod enc P W base spare held n f1.type ((cs.drop f1.offset).take (P.cellsOf f1.type)) = some y1 ∧ DataW.trod enc P W base spare held n f2.type ((cs.drop f2.offset).take (P.cellsOf f2.type)) = some y2 ∧
   DataW.trod enc P W base spare held n f3.type ((cs.drop f3.offset).take (P.cellsOf f3.type)) = some y3 ∧ DataW.trod enc P W base spare held n f4.type ((cs.drop f4.offset).take (P.cellsOf f4.type)) = some y4 := by
 obtain ⟨xs, n, _, rfl, hl, hlen, hf⟩ := DataW.trod_struct ht h
 match xs, hlen with
 | [y0, y1, y2, y3, y4], _ => exact ⟨y0, y1, y2, y3, y4, n, by simpa using hf 0 f0 rfl, by simpa using hf 1 f1 rfl, by simpa using hf 2 f2 rfl, by simpa using hf 3 f3 rfl, by simpa using hf 4 f4 rfl⟩
theorem row_trod {α : Type} (K : Kind α) {ts te : TypeId} (ht : Tryz.prog.underlying ts = some (.slice te)) (hk : Tryz.prog.cellsOf te = K.n)
  (hel : ∀ {fuel : Nat} {l : List Value} {x : DataW H × List MemPlace}, l.length = K.n → DataW.trod enc Tryz.prog W 0 (fun _ => true) true fuel te l = some x → ∃ e : α, l = K.cs e ∧ K.ok W e)
  {fuel : Nat} {cs : List Value} {x : DataW H × List MemPlace} (h : DataW.trod enc Tryz.prog W 0 (fun _ => true) true fuel ts cs = some x) : ∃ (xs : List α) (A : Option Addr) (c : Nat), cs = [.slice A xs.length c] ∧ K.row W A c xs := by
 obtain ⟨A, len, c, rfl⟩ := Joins.slice_form ht h
 obtain ⟨xs, rfl, hr⟩ := open_rowK K ht hk hel h
 exact ⟨xs, A, c, rfl, hr⟩
theorem split_at {l : List Value} {k n : Nat} (h : l.length = k + n) : l = l.take k ++ l.drop k ∧ (l.take k).length = k ∧ (l.drop k).length = n := ⟨(List.take_append_drop k l).symm, by rw [List.length_take]; omega, by rw [List.length_drop]; omega⟩
theorem en_trod {fuel : Nat} {l : List Value} {x : DataW H × List MemPlace} (hl : l.length = 37) (hf : DataW.trod enc Tryz.prog W 0 (fun _ => true) true fuel 48 l = some x) : ∃ e : EnA, l = KEn.cs e ∧ KEn.ok W e := by
 have k1 : Tryz.prog.cellsOf 3 = 1 := by kernel_rfl
 have k2 : Tryz.prog.cellsOf 40 = 2 := by kernel_rfl
 have k32 : Tryz.prog.cellsOf 26 = 32 := by kernel_rfl
 have ks : Tryz.prog.cellsOf 46 = 1 := by kernel_rfl
 obtain ⟨y0, y1, y2, y3, y4, m, h0, h1, h2, h3, h4⟩ := trod_struct5 Tryz.underlying48 hf
 dsimp only at h0 h1 h2 h3 h4
 rw [k1] at h0 h2
 rw [k2] at h1
 rw [k32] at h3
 rw [ks] at h4
 match l, hl with
 | c0 :: c1 :: c2 :: c3 :: cs, hl =>
  obtain ⟨e1, e2, e3⟩ := split_at (l := cs) (k := 32) (n := 1) (by simpa using hl)
  simp only [List.drop_succ_cons, List.drop_zero, List.take_succ_cons, List.take_zero] at h0 h1 h2 h3 h4
  rw [List.take_of_length_le (by rw [e3]; exact Nat.le_refl _)] at h4
  obtain ⟨n0, q0, _, w0⟩ := DataW.trod_int Tryz.underlying3 h0
  obtain ⟨n1, n2, rfl, rfl, w1, w2⟩ := st_trod h1
  obtain ⟨n3, q3, _, w3⟩ := DataW.trod_int Tryz.underlying3 h2
  simp at q0 q3
  subst q0 q3
  obtain ⟨z, hz, hz32, hb⟩ := bytes_trod Tryz.underlying26 Tryz.underlying5 (by kernel_rfl) k32 h3
  obtain ⟨bs, A, c, hs, hr⟩ := row_trod KSig Tryz.underlying46 (by kernel_rfl) (fun hl hf => sig_trod hl hf) h4
  refine ⟨⟨⟨n0, n1, n2, n3, z, bs⟩, A, c⟩, ?_, w0, w1, w2, w3, hz32, hb, hr⟩
  rw [e1, hz, hs]
  rfl
theorem ln_trod {fuel : Nat} {l : List Value} {x : DataW H × List MemPlace} (hl : l.length = 19) (hf : DataW.trod enc Tryz.prog W 0 (fun _ => true) true fuel 43 l = some x) : ∃ e : LnA, l = KLn.cs e ∧ KLn.ok W e := by
 have k16 : Tryz.prog.cellsOf 38 = 16 := by kernel_rfl
 have k2 : Tryz.prog.cellsOf 40 = 2 := by kernel_rfl
 have ks : Tryz.prog.cellsOf 41 = 1 := by kernel_rfl
 obtain ⟨y0, y1, y2, m, _, _, h0, h1, h2⟩ := trod_struct3 Tryz.underlying43 hf
 dsimp only at h0 h1 h2
 rw [k16, List.drop_zero] at h0
 rw [k2] at h1
 rw [ks] at h2
 obtain ⟨e1, e2, e3⟩ := split_at (l := l) (k := 16) (n := 3) hl
 have e4 : l.drop 18 = (l.drop 16).drop 2 := by rw [List.drop_drop]
 rw [e4] at h2
 generalize l.drop 16 = t at *
 match t, e3 with
 | [c0, c1, c2], _ =>
  simp only [List.drop_succ_cons, List.drop_zero, List.take_succ_cons, List.take_zero] at h1 h2
  obtain ⟨z, hz, hz16, hb⟩ := id_trod h0
  obtain ⟨n1, n2, rfl, rfl, w1, w2⟩ := st_trod h1
  obtain ⟨es, A, c, hs, hr⟩ := row_trod KEn Tryz.underlying41 (by kernel_rfl) (fun hl hf => en_trod hl hf) h2
  refine ⟨⟨z, n1, n2, A, c, es⟩, ?_, hz16, hb, w1, w2, hr⟩
  rw [e1, hz]
  simp at hs
  rw [hs]
  rfl
theorem open_mn {r : Reach} {b0 : Nat} {v : Value} {d : DataW H} {p : List MemPlace}
  (hv : Value.okWide Tryz.prog W r b0 29 v) (h : DataW.Trod enc Tryz.prog W 0 (fun _ => true) true 29 v d p) : ∃ m : MnA, v = m.v ∧ m.Ok W := by
 obtain ⟨cs, rfl, hsz⟩ := okWide_struct Tryz.underlying29 hv
 have hsz : cs.size = 33 := hsz.trans (by kernel_rfl)
 obtain ⟨fuel, hf⟩ := h
 have hf : DataW.trod enc Tryz.prog W 0 (fun _ => true) true fuel 29 cs.toList = some (d, p) := by simpa [Value.cells] using hf
 have k32 : Tryz.prog.cellsOf 26 = 32 := by kernel_rfl
 have ks : Tryz.prog.cellsOf 27 = 1 := by kernel_rfl
 obtain ⟨y0, y1, m, _, _, h0, h1⟩ := trod_struct2 Tryz.underlying29 hf
 dsimp only at h0 h1
 rw [k32, List.drop_zero] at h0
 rw [ks] at h1
 obtain ⟨e1, e2, e3⟩ := split_at (l := cs.toList) (k := 32) (n := 1) (by rw [Array.length_toList, hsz])
 rw [List.take_of_length_le (by rw [e3]; exact Nat.le_refl _)] at h1
 obtain ⟨z, hz, hz32, hb⟩ := bytes_trod Tryz.underlying26 Tryz.underlying5 (by kernel_rfl) k32 h0
 obtain ⟨ls, A, c, hs, hr⟩ := row_trod KLn Tryz.underlying27 (by kernel_rfl) (fun hl hf => ln_trod hl hf) h1
 refine ⟨⟨z, A, c, ls⟩, ?_, hz32, hb, hr⟩
 have : cs = (cs.toList).toArray := by simp
 rw [this, e1, hz, hs]
 rfl
end
end
section
open Go.RowKit WM
set_option maxRecDepth 100000
def fewB (rs : List Rc) : Bool := decide (rs.length ≤ 14) && rs.all fun r => fewR r.fs
theorem fewB_drop {xs : List RcA} {k : Nat} (hk : k < xs.length) : ((xs.drop k).map (·.R)).all (fun r => fewR r.fs) = (fewR (xs.getD k rcA0).R.fs && ((xs.drop (k + 1)).map (·.R)).all fun r => fewR r.fs) := by
 rw [List.drop_eq_getElem_cons hk, List.map_cons, List.all_cons]
 simp only [List.getD, List.getElem?_eq_getElem hk, Option.getD_some]
theorem fewB_fs {b : Bk} (h : fewB b.rs = true) : b.xs.length ≤ 14 ∧ ∀ x ∈ b.xs, x.R.fs.length ≤ 1000 := by
 unfold fewB Bk.rs at h
 simp only [Bool.and_eq_true, decide_eq_true_eq, List.length_map, List.all_eq_true] at h
 refine ⟨h.1, fun x hx => ?_⟩
 have h2 := h.2 x.R (List.mem_map_of_mem hx)
 unfold fewR at h2
 simp only [Bool.and_eq_true, decide_eq_true_eq] at h2
 omega
set_option maxHeartbeats 4000000 in
theorem fewB_any (b : Bk) (w : World) (h : BkAt w b) :
  Calls Tryz.prog 10 #[.agg #[.slice b.A b.xs.length b.c]] w fun e w' => e = .returned (.bool (fewB b.rs)) ∧ Below w.heap.size w w' := by
 obtain ⟨xs, A, c⟩ := b
 dsimp only at h ⊢
 have S0 := Lib.hid (BoAt.new w (.slice A xs.length c))
 have HB := Lib.hid ((Below.refl w.heap.size w).alloc (Nat.le_refl _) (.cells #[.slice A xs.length c] 24))
 have s0 := S0.out.c0
 have HRV := Lib.hid (fun i (hi : i < xs.length) => RsAt.rv h hi)
 obtain ⟨hc1, hc2, hc3, hcell, _⟩ := h
 dsimp only at hc1 hc2 hc3 hcell HRV
 simp only [maxLen] at hc2
 have HC := Lib.hid hcell
 have HV : Hid (fewB (Bk.rs ⟨xs, A, c⟩) = (decide (xs.length ≤ 14) && ((xs.drop 0).map (·.R)).all fun r => fewR r.fs)) := Lib.hid (by unfold fewB Bk.rs; rw [List.length_map]; rfl)
 generalize fewB (Bk.rs ⟨xs, A, c⟩) = V at HV ⊢
 generalize hlen : xs.length = len at *
 have HLN := Lib.hid hlen
 clear hcell hlen
 by_cases h14 : len ≤ 14
 ·have hV2 := HV.out
  rw [decide_eq_true h14, Bool.true_and] at hV2
  have HV2 := Lib.hid hV2
  have t1 : ¬ 14 < (len : Int) := by omega
  clear hV2
  go_enter Tryz.func10, Tryz.ntmps10
  go_wp2
  clear s0
  go_loopw [3] (fun i wr => ∃ k : Nat, k ≤ len ∧ i = .int .i64 k ∧ BoAt wr w.heap.size (.slice A len c) ∧ Below w.heap.size w wr ∧ V = ((xs.drop k).map (·.R)).all fun r => fewR r.fs) (fun i _ => len - (intOf i).toNat)
  case atStart => exact ⟨0, Nat.zero_le _, rfl, S0.out, HB.out, HV2.out⟩
  case round =>
   obtain ⟨k, hk, rfl, hs, hb, hf⟩ := hrel
   have d0 := hs.c0
   by_cases hlt : k < len
   ·obtain ⟨b0, off, rfl, hbB, hcc⟩ := HC.out (by omega)
    have hx := (hcc k hlt).same (hb.block b0 hbB)
    have IX := ix_rec b0 off len c k hlt k rfl
    have hvx := (HRV.out k hlt).below hb (Nat.le_refl _)
    rw [fewB_drop (by rw [HLN.out]; exact hlt)] at hf
    generalize xs.getD k rcA0 = x at *
    generalize off + k * 19 = ox at *
    have LX := Lib.hid hx.load
    have HFW := Lib.hid (xfew_any x wr hvx)
    have HBB := Lib.hid (And.intro hs hb)
    clear hcc hx hvx hs hb
    cases hq : fewR x.R.fs
    ·rw [hq] at HFW hf
     rw [Bool.false_and] at hf
     have HF := Lib.hid hf
     clear hf hq
     go_wp2_with (first | ((with_reducible refine wpList_load_by (o := ⟨some 20, .load 58 (.tmp 19), _, _, _, _⟩) ?e1 58 (.tmp 19) ?e2 ⟨b0, ox, none⟩ ?e3 _ LX.out ?_); (case e1 => rfl); (case e2 => rfl); (case e3 => rfl)))
     refine HFW.out.mono ?_
     rintro e w2 ⟨rfl, hb⟩
     have B2 := Lib.hid (HBB.out.2.trans (hb.mono HBB.out.2.size))
     clear hb
     go_wp2
     go_ret
     exact ⟨by rw [HF.out]; rfl, B2.out⟩
    ·rw [hq] at HFW hf
     rw [Bool.true_and] at hf
     have HF := Lib.hid hf
     clear hf hq
     go_wp2_with (first | ((with_reducible refine wpList_load_by (o := ⟨some 20, .load 58 (.tmp 19), _, _, _, _⟩) ?e1 58 (.tmp 19) ?e2 ⟨b0, ox, none⟩ ?e3 _ LX.out ?_); (case e1 => rfl); (case e2 => rfl); (case e3 => rfl)))
     refine HFW.out.mono ?_
     rintro e w2 ⟨rfl, hb⟩
     have B2 := Lib.hid (HBB.out.2.trans (hb.mono HBB.out.2.size))
     have S2 := Lib.hid (HBB.out.1.below hb HBB.out.1.lt)
     clear hb
     go_wp2
     go_roundw
     case rel => exact ⟨k + 1, by omega, by go_num, S2.out, B2.out, HF.out⟩
     case measure => simp [intOf]; omega
   ·obtain rfl : k = len := by omega
    rw [List.drop_eq_nil_of_le (by rw [HLN.out]; exact Nat.le_refl _)] at hf
    have HF := Lib.hid hf
    have HBB := Lib.hid hb
    clear hf hb hs
    go_wp2
    go_ret
    exact ⟨by rw [HF.out]; rfl, HBB.out⟩
 ·have hV2 := HV.out
  rw [decide_eq_false h14, Bool.false_and] at hV2
  have HF := Lib.hid hV2
  have t1 : 14 < (len : Int) := by omega
  clear hV2
  go_enter Tryz.func10, Tryz.ntmps10
  go_wp2
  go_ret
  exact ⟨by rw [HF.out]; rfl, HB.out⟩
end
section
section
open Go.RowKit WM
set_option maxRecDepth 100000
set_option maxHeartbeats 2000000 in
theorem rone_any (s : ByteArray) (w : World) (hs : s.size ≤ 1000000) : Calls Tryz.prog 70 #[.string s] w fun e w' => e = .returned (KSig.v (sgOne (nums s))) ∧ Below w.heap.size w w' := by
 have hz := zeroSig
 have hok := sgOne_ok (nums s)
 have HC1 := Lib.hid (fun w => rrsum_any s w hs)
 have HC2 := Lib.hid (fun (X : World) (hX : Below w.heap.size w X) => rof_dig s X (by omega))
 unfold DSumPost at HC2
 have HBD := Lib.hid (fun w9 => build_sig (x := sgOne (nums s)) hok.2.2.1 w9)
 have SZ := Lib.hid (sig_size hok)
 have SQ := Lib.hid (sig_same sgz_ok hok)
 have SO := Lib.hid (sig_ones (sgOne (nums s)))
 have hrA : ∀ X, Below (w.heap.size + 1) (w.alloc (.cells (KSig.cs sgz).toArray 100)) X → X.heap[w.heap.size]? = some (.cells (KSig.cs sgz).toArray 100) := fun X hX => (hX.block _ (by omega)).trans (heap_alloc_new w _)
 have hbA : Below w.heap.size w (w.alloc (.cells (KSig.cs sgz).toArray 100)) := (Below.refl _ _).alloc (Nat.le_refl _) _
 have hszA : (w.alloc (.cells (KSig.cs sgz).toArray 100)).heap.size = w.heap.size + 1 := World.size_alloc _ _
 simp only [show (sgOne (nums s)).wk = rlS (nums s) from rfl, show (sgOne (nums s)).ds = SH.sum (nums s) from rfl] at HBD
 rw [show KSig.v ⟨0, List.replicate 32 0⟩ = .agg (KSig.cs sgz).toArray from rfl] at hz
 rw [show KSig.v (sgOne (nums s)) = .agg (KSig.cs (sgOne (nums s))).toArray from rfl] at HBD ⊢
 have hzne : ¬ (KSig.cs sgz).toArray = #[] := by simp [KSig, Sg.cs]
 have HRA := Lib.hid hrA
 have HBA := Lib.hid hbA
 have HSZ := Lib.hid hszA
 generalize (KSig.cs sgz).toArray = Z at *
 generalize (KSig.cs (sgOne (nums s))).toArray = V at *
 generalize rlS (nums s) = R at *
 generalize bvals (SH.sum (nums s)) = D at *
 clear hrA hbA hszA hok
 go_enter Tryz.func70, Tryz.ntmps70
 go_wp2_with fail
 refine (HC1.out _).mono ?_
 rintro e w1 ⟨rfl, hb1⟩
 rw [HSZ.out] at hb1
 have HB1 := Lib.hid hb1
 clear hb1
 go_wp2_with fail
 refine (HC2.out _ (HBA.out.trans (HB1.out.mono (by omega)))).mono ?_
 rintro e w2 ⟨rfl, hb2⟩
 have HB2 := Lib.hid (HB1.out.trans (hb2.mono (by have := HB1.out.size; rw [HSZ.out] at this; exact this)))
 have F1 := Lib.hid (HRA.out _ HB2.out)
 have F2 := Lib.hid (show (w2.setRow w.heap.size V).heap[w.heap.size]? = some (.cells V 100) from setRow_heap _ _ _ _ _ _ F1.out)
 have F3 := Lib.hid (below_setRow (HBA.out.trans (HB2.out.mono (by omega))) (Nat.le_refl _) V)
 clear hb2
 go_wp2_with (first | ((with_reducible refine wpList_build_at (o := ⟨some 7, .build 100 #[(0, .tmp 4), (1, .tmp 6)], _, _, _, _⟩) ?e1 100 #[(0, .tmp 4), (1, .tmp 6)] ?e2 #[(0, .int .u32 R), (1, .agg D)] ?e3 _ (HBD.out w2) ?_); (case e1 => rfl); (case e2 => rfl); (case e3 => (simp only [List.map_toArray, List.map_cons, List.map_nil]; rfl))) | ((with_reducible refine wpList_store_row (o := ⟨none, .store 100 (.tmp 2) (.tmp 7), _, _, _, _⟩) ?e1 100 (.tmp 2) (.tmp 7) ?e2 w.heap.size V ?e3 ?e4 100 _ F1.out SZ.out SQ.out SO.out ?_); (case e1 => rfl); (case e2 => rfl); (case e3 => rfl); (case e4 => rfl)))
 exact bodyPost_ret (v := .agg V) (by exact results_cell_row Tryz.results70 _ _ w.heap.size 100 V (0, 0) _ rfl F2.out Tryz.underlying100 rfl SZ.out) (by rfl) ⟨rfl, F3.out⟩
end
section
open Go.RowKit WM
set_option maxRecDepth 100000
end
end
section
open Go.RowKit WM
set_option maxRecDepth 100000
set_option maxHeartbeats 4000000 in
theorem rof10_new (s : ByteArray) (w : World) (hs : s.size ≤ 2000000) : Calls Tryz.prog 41 #[.string s] w (KPostN KSig 100 w (sgOf (nums s))) := by
 have HN0 := Lib.hid (kpostN_nil (K := KSig) (te := 100) (Below.refl w.heap.size w))
 obtain ⟨n, hn⟩ : ∃ n, n = s.size := ⟨_, rfl⟩
 have HNN := Lib.hid (show (nums s).length = n by rw [nums_len, hn])
 have hlen : s.size = n := hn.symm
 have HSZ := Lib.hid hlen
 clear hn
 by_cases h1 : n < 24
 ·have HV := Lib.hid (sgOf_none (zs := nums s) (by rw [HNN.out]; exact h1))
  have t1 : (n : Int) < 24 := by omega
  go_enter Tryz.func41, Tryz.ntmps41
  go_wp2
  go_ret
  rw [HV.out]
  exact HN0.out
 ·have t0 : ¬ (n : Int) < 24 := by omega
  have h24 : ¬ (nums s).length < 24 := by rw [HNN.out]; exact h1
  obtain ⟨m, hm⟩ : ∃ m, m = n / 8 := ⟨_, rfl⟩
  have HLN := Lib.hid (sgOf_len h24)
  rw [HNN.out, ← hm] at HLN
  have HAT := Lib.hid (fun k (hk : k < m) => sgOf_at h24 (k := k) (by rw [HNN.out, ← hm]; exact hk))
  have HOK := Lib.hid (sgOf_ok (nums s))
  generalize sgOf (nums s) = L at *
  have hm8 : 8 * m ≤ n ∧ n < 8 * m + 8 := by omega
  have hquo : Int.tdiv (n : Int) 8 = (m : Int) := by rw [Int.tdiv_eq_ediv_of_nonneg (by omega)]; omega
  have HB := Lib.hid (Below.refl w.heap.size w)
  have HPS := Lib.hid (fun (k : Nat) (hk : k + 8 ≤ n) (X : World) (hX : Below w.heap.size w X) => rone_any (s.extract k (k + 8)) X (by rw [extract_size _ _ _ (by rw [HSZ.out]; exact hk)]; omega))
  have HPN := Lib.hid (fun k => part_nums s k 8)
  obtain ⟨i0, hi, hz0, hz1, hz2⟩ := info_parts infoSig
  have hzl : (KSig.v ⟨0, List.replicate 32 0⟩).cells.size = KSig.n := by decide
  have HSB := Lib.hid (fun (k : Nat) (hk : k + 8 ≤ n) (I J : Int) (eI : I = k) (eJ : J = ((k + 8 : Nat) : Int)) (w : World) => sub_str s k (k + 8) (by omega) (by rw [HSZ.out]; exact hk) I J eI eJ w)
  clear h1 h24 hm
  go_enter Tryz.func41, Tryz.ntmps41
  go_wp2
  go_loopw [3, 4] (fun v i wr => ∃ k a : Nat, k ≤ m ∧ a = 8 * k ∧ i = .int .i64 a ∧ wr.ownsRow w.heap.size 100 KSig.n v k ((L.take k).flatMap KSig.cs) ∧ Below w.heap.size w wr) (fun _ i _ => n + 8 - (intOf i).toNat)
  case atStart => exact ⟨0, 0, Nat.zero_le _, rfl, rfl, World.ownsRow_nil _ _ _ _, HB.out⟩
  case round =>
   obtain ⟨k, a, hk, ha, rfl, ho, hb⟩ := hrel
   have HO := Lib.hid ho
   have HBB := Lib.hid hb
   have HA := Lib.hid ha
   by_cases hlt : k < m
   ·have f2 : IntKind.i64.wrap ((a : Int) + 8) = (a : Int) + 8 := IntWalk.i64_in _ (by omega)
    have t1 : (a : Int) + 8 ≤ (n : Int) := by omega
    have hsl := HSB.out a (by omega) (a : Int) ((a : Int) + 8) rfl (by omega)
    have HC := Lib.hid (HPS.out a (by omega) wr hb)
    rw [HPN.out, ha, ← HAT.out k hlt, ← ha] at HC
    have HXO := Lib.hid (HOK.out (L.getD k sg0) (by rw [List.getD_eq_getElem?_getD, List.getElem?_eq_getElem (by rw [HLN.out]; exact hlt)]; exact List.getElem_mem _))
    have HTK := Lib.hid (show L.take (k + 1) = L.take k ++ [L.getD k sg0] by
     rw [List.take_succ_eq_append_getElem (by rw [HLN.out]; exact hlt), List.getD_eq_getElem?_getD, List.getElem?_eq_getElem (by rw [HLN.out]; exact hlt)]
     rfl)
    generalize s.extract a (a + 8) = p at *
    generalize L.getD k sg0 = x at *
    clear ho hb ha
    go_wp2_with fail
    refine HC.out.mono ?_
    rintro e w1 ⟨rfl, hb1⟩
    have B1 := Lib.hid (HBB.out.trans (hb1.mono HBB.out.size))
    have O1 := Lib.hid ((own_below HO.out hb1).alloc (.cells (KSig.cs x).toArray 100))
    have B2 := Lib.hid (B1.out.alloc B1.out.size (.cells (KSig.cs x).toArray 100))
    have R2 := Lib.hid (Kind.row_one (K := KSig) (w := w1) (x := x) (t := 100) HXO.out)
    have VL : Hid (k + 1 ≤ 10000000) := Lib.hid (by omega)
    have VS := Lib.hid B2.out.size
    have XL := Lib.hid (show (KSig.cs x).length = KSig.n from Sg.cs_len HXO.out)
    clear hb1
    go_wp2_with (first | ((with_reducible refine wpList_bsliceK (K := KSig) (o := ⟨some 22, .buildSlice 46 1 #[(0, .tmp 21)], _, _, _, _⟩) ?e1 (.tmp 21) ?e2 x ?e3 XL.out Tryz.underlying46 sizeSigK zeroSig nSig ?_); (case e1 => rfl); (case e2 => rfl); (case e3 => rfl)) | (at_builtin; refine wpList_append_K (K := KSig) _ rfl _ _ 46 rfl w.heap.size 100 i0 _ 36 Tryz.underlying46 hi hz0 hz1 hz2 hzl (by omega) _ k (L.take k) rfl O1.out (some ⟨w1.heap.size, 0, none⟩) 1 1 [x] rfl R2.out rfl VL.out VS.out ?_; intro v3 w3 ho3 hg3; have O3 := Lib.hid ho3; have B3 := Lib.hid (B2.out.grown hg3 B2.out.size (fun g hg => own_base O1.out hg)); obtain ⟨g13, cap13, rfl⟩ := ownsRow_succ ho3; clear ho3 hg3))
    go_roundw
    case rel => exact ⟨k + 1, a + 8, by omega, by have := HA.out; omega, by go_num, by rw [HTK.out]; exact O3.out, B3.out⟩
    case measure => simp [intOf]; omega
   ·obtain rfl : k = m := by omega
    have f2 : IntKind.i64.wrap ((a : Int) + 8) = (a : Int) + 8 := IntWalk.i64_in _ (by omega)
    have t1 : ¬ (a : Int) + 8 ≤ (n : Int) := by omega
    have hT : L.take k = L := List.take_of_length_le (by rw [HLN.out]; exact Nat.le_refl _)
    rw [hT] at ho
    have hll := HLN.out
    rw [← hll] at ho
    have HO := Lib.hid ho
    clear ho hb hT hll ha
    go_wp2
    go_ret
    exact kpostN_own HO.out HOK.out HBB.out
end
end Go.Proofs.YtbkopnpafmjicaaGreatDoor
