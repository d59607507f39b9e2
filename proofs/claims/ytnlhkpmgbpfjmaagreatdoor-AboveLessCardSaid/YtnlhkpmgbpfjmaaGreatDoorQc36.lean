import Derived.Test.YtnlhkpmgbpfjmaaGreatDoorQc0
import Derived.Test.YtnlhkpmgbpfjmaaGreatDoorQc1
import Derived.Test.YtnlhkpmgbpfjmaaGreatDoorQc10
import Derived.Test.YtnlhkpmgbpfjmaaGreatDoorQc14
import Derived.ProofKit
import Derived.OpenShut
import Derived.ChangeSame
import Derived.Lib.SmallJoins
import Derived.Deep.Slices
import Derived.Deep.Strs
/-
  What the functions that a law of this layer reaches answer, part 36. Nothing that was there is written.
-/
namespace Go.Proofs.YtnlhkpmgbpfjmaaGreatDoor
set_option linter.unusedVariables false
set_option linter.unusedSimpArgs false
section
section
open Go.ChangeShapes Go.WideShapes Go.ChangeAt Go.RowKit Go.Joins WM
set_option maxRecDepth 40000
def IsCel (c : Cel) : Prop := (Lit.int .i64 c.n).wf = true ∧ (Lit.int .i64 c.r).wf = true ∧ c.s.size ≤ maxLen
theorem cell_trod {H : Type} {enc : TypeId × Value → H} {W : World} {base : Nat} {spare : Nat → Bool} {held : Bool} {fuel : Nat} {c0 c1 c2 : Value} {x : DataW H × List MemPlace}
  (hf : DataW.trod enc Tryz.prog W base spare held fuel 38 [c0, c1, c2] = some x) : ∃ c : Cel, IsCel c ∧ c0 = .int .i64 c.n ∧ c1 = .int .i64 c.r ∧ c2 = .string c.s := by
 obtain ⟨y0, y1, m, _, _, h0, h1⟩ := trod_struct2 Tryz.underlying38 hf
 have k0 : Tryz.prog.cellsOf 33 = 2 := by kernel_rfl
 have k1 : Tryz.prog.cellsOf 9 = 1 := by kernel_rfl
 have k2 : Tryz.prog.cellsOf 3 = 1 := by kernel_rfl
 dsimp only at h0 h1
 rw [k0] at h0
 rw [k1] at h1
 obtain ⟨z0, z1, m', _, _, g0, g1⟩ := trod_struct2 Tryz.underlying33 h0
 dsimp only at g0 g1
 rw [k2] at g0 g1
 obtain ⟨n0, e0, _, w0⟩ := DataW.trod_int Tryz.underlying3 g0
 obtain ⟨n1, e1, _, w1⟩ := DataW.trod_int Tryz.underlying3 g1
 obtain ⟨s, e2, _, w2⟩ := DataW.trod_string Tryz.underlying9 h1
 simp at e0 e1 e2
 subst e0 e1 e2
 exact ⟨⟨n0, n1, s⟩, ⟨w0, w1, w2⟩, rfl, rfl, rfl⟩
end
section
open Go.ChangeShapes Go.WideShapes Go.ChangeAt Go.RowKit Go.Deep WM
set_option maxRecDepth 40000
theorem cells_at {w : World} {a : Addr} {n : Nat} {cs : List Value} (h : w.cells? 0 a n = some cs) : cs.length = n ∧ ∀ k, k < n → w.cell? (a.add k) = cs[k]? := by
 obtain ⟨hb, hl, h2⟩ := World.cells?_some h
 exact ⟨hl, h2⟩
end
section
open Go.ChangeShapes Go.WideShapes Go.ChangeAt Go.RowKit Go.Joins Go.Deep WM
def IsFld (f : Fld) : Prop := (Lit.int .i64 f.no).wf = true ∧ IsCel f.c
def IsRec (W : World) (R : Rc) (A : Option Addr) (c : Nat) : Prop :=
 R.Ok ∧ FsAt W A c R.fs ∧ (Lit.int .i64 R.n).wf = true ∧ (Lit.int .i64 R.r).wf = true ∧ ∀ f ∈ R.fs, IsFld f
section
variable {H : Type} {enc : TypeId × Value → H} {W : World} {base : Nat} {spare : Nat → Bool} {held : Bool}
theorem id_trod {fuel : Nat} {cs : List Value} {x : DataW H × List MemPlace} (hf : DataW.trod enc Tryz.prog W base spare held fuel 31 cs = some x) : ∃ z : List Int, cs = z.map (Value.int .u8) ∧ z.length = 16 ∧ AllBytes z := by
 have ce : Tryz.prog.cellsOf 5 = 1 := by kernel_rfl
 have ct : Tryz.prog.cellsOf 31 = 16 := by kernel_rfl
 obtain ⟨ys, m, rfl, hx, hcl, hyl, hall⟩ := DataW.trod_array Tryz.underlying31 hf
 have hlen : cs.length = 16 := by rw [hcl, ct]
 have key : ∀ (i : Nat) (hi : i < cs.length), ∃ n : Int, cs[i] = .int .u8 n ∧ 0 ≤ n ∧ n ≤ 255 := fun i hi => by
  have h1 := hall i (by omega)
  rw [ce, Nat.mul_one, List.getElem?_eq_getElem (by omega)] at h1
  obtain ⟨n, hc, _, hw⟩ := DataW.trod_int Tryz.underlying5 h1
  refine ⟨n, ?_, (bounds_u8 hw).1, (bounds_u8 hw).2⟩
  have h2 := congrArg (fun l => l[0]?) hc
  have h3 : cs[i]? = some (.int .u8 n) := by simpa [Value.cells, List.getElem?_take, List.getElem?_drop] using h2
  exact (List.getElem?_eq_some_iff.1 h3).2
 refine ⟨cs.map intOf, ?_, by rw [List.length_map, hlen], fun z hz => ?_⟩
 ·rw [List.map_map]
  apply List.ext_getElem
  ·simp
  ·intro i h1 h2
   obtain ⟨n, hn, _⟩ := key i h1
   simp only [List.getElem_map, Function.comp]
   rw [hn]
   rfl
 ·obtain ⟨v, hv, rfl⟩ := List.mem_map.1 hz
  obtain ⟨i, hi, rfl⟩ := List.getElem_of_mem hv
  obtain ⟨n, hn, h0, h1⟩ := key i hi
  rw [hn]
  exact ⟨h0, h1⟩
theorem st_trod {fuel : Nat} {c0 c1 : Value} {x : DataW H × List MemPlace} (hf : DataW.trod enc Tryz.prog W base spare held fuel 33 [c0, c1] = some x) :
  ∃ n r : Int, c0 = .int .i64 n ∧ c1 = .int .i64 r ∧ (Lit.int .i64 n).wf = true ∧ (Lit.int .i64 r).wf = true := by
 have k2 : Tryz.prog.cellsOf 3 = 1 := by kernel_rfl
 obtain ⟨z0, z1, m', _, _, g0, g1⟩ := trod_struct2 Tryz.underlying33 hf
 dsimp only at g0 g1
 rw [k2] at g0 g1
 obtain ⟨n0, e0, _, w0⟩ := DataW.trod_int Tryz.underlying3 g0
 obtain ⟨n1, e1, _, w1⟩ := DataW.trod_int Tryz.underlying3 g1
 simp at e0 e1
 subst e0 e1
 exact ⟨n0, n1, rfl, rfl, w0, w1⟩
set_option maxRecDepth 20000 in
theorem fld_trod {fuel : Nat} {c0 c1 c2 c3 : Value} {x : DataW H × List MemPlace} (hf : DataW.trod enc Tryz.prog W base spare held fuel 59 [c0, c1, c2, c3] = some x) :
  ∃ f : Fld, IsFld f ∧ c0 = .int .i64 f.no ∧ c1 = .int .i64 f.c.n ∧ c2 = .int .i64 f.c.r ∧ c3 = .string f.c.s := by
 have k2 : Tryz.prog.cellsOf 3 = 1 := by kernel_rfl
 have k3 : Tryz.prog.cellsOf 38 = 3 := by kernel_rfl
 obtain ⟨z0, z1, m', _, _, g0, g1⟩ := trod_struct2 Tryz.underlying59 hf
 dsimp only at g0 g1
 rw [k2] at g0
 rw [k3] at g1
 obtain ⟨n0, e0, _, w0⟩ := DataW.trod_int Tryz.underlying3 g0
 simp at e0
 subst e0
 obtain ⟨c, hc, h0, h1, h2⟩ := cell_trod (c0 := c1) (c1 := c2) (c2 := c3) (by simpa using g1)
 exact ⟨⟨n0, c⟩, ⟨w0, hc⟩, rfl, h0, h1, h2⟩
end
theorem list19 {l : List Value} (h : l.length = 19) : ∃ z x y s, l = z ++ [x, y, s] ∧ z.length = 16 := by
 refine ⟨l.take 16, l.getD 16 undef, l.getD 17 undef, l.getD 18 undef, ?_, by rw [List.length_take]; omega⟩
 apply List.ext_getElem?
 intro i
 rcases Nat.lt_or_ge i 16 with h1 | h1
 ·rw [List.getElem?_append_left (by rw [List.length_take]; omega), List.getElem?_take, if_pos h1]
 ·rw [List.getElem?_append_right (by rw [List.length_take]; omega), List.length_take, h]
  have h2 : i = 16 ∨ i = 17 ∨ i = 18 ∨ 19 ≤ i := by omega
  rcases h2 with rfl | rfl | rfl | h2
  ·simp [List.getD, h]
  ·simp [List.getD, h]
  ·simp [List.getD, h]
  ·rw [List.getElem?_eq_none (by omega), List.getElem?_eq_none (by simp; omega)]
set_option maxRecDepth 20000 in
theorem open_rec {H : Type} {enc : TypeId × Value → H} {W : World} {r : Reach} {b0 : Nat} {v : Value} {d : DataW H} {p : List MemPlace}
  (hv : Value.okWide Tryz.prog W r b0 36 v) (h : DataW.Trod enc Tryz.prog W 0 (fun _ => true) true 36 v d p) : ∃ R A c, v = R.v A c ∧ IsRec W R A c := by
 obtain ⟨cs, rfl, hsz⟩ := okWide_struct Tryz.underlying36 hv
 have k19 : Tryz.prog.cellsOf 36 = 19 := by kernel_rfl
 have k16 : Tryz.prog.cellsOf 31 = 16 := by kernel_rfl
 have k2 : Tryz.prog.cellsOf 33 = 2 := by kernel_rfl
 have k1 : Tryz.prog.cellsOf 34 = 1 := by kernel_rfl
 have k4 : Tryz.prog.cellsOf 59 = 4 := by kernel_rfl
 obtain ⟨fuel, hf⟩ := h
 obtain ⟨zs, x, y, s, hcs, hz⟩ := list19 (l := cs.toList) ((Array.length_toList).trans (hsz.trans k19))
 have hc2 : (Value.agg cs).cells.toList = zs ++ [x, y, s] := hcs
 rw [hc2] at hf
 obtain ⟨y0, y1, y2, m, _, _, h0, h1, h2⟩ := trod_struct3 Tryz.underlying36 hf
 dsimp only at h0 h1 h2
 rw [k16, List.drop_zero, ← hz, List.take_left] at h0
 have e1 : ((zs ++ [x, y, s]).drop 16).take 2 = [x, y] := by rw [← hz, List.drop_left]; rfl
 have e2 : ((zs ++ [x, y, s]).drop 18).take 1 = [s] := by
  rw [show zs ++ [x, y, s] = (zs ++ [x, y]) ++ [s] by simp, show 18 = (zs ++ [x, y]).length by simp [hz], List.drop_left]
  rfl
 rw [k2, e1] at h1
 rw [k1, e2] at h2
 obtain ⟨z, rfl, hz16, hzb⟩ := id_trod h0
 obtain ⟨n, q, rfl, rfl, wn, wr⟩ := st_trod h1
 have fin : ∀ (A : Option Addr) (c len : Nat) (F : Nat → Fld), s = .slice A len c → len ≤ c → c ≤ maxLen → (A = none → c = 0) → (∀ i, i < len → IsFld (F i)) →
   (0 < len → ∃ b off, A = some ⟨b, off, none⟩ ∧ b < W.heap.size ∧ ∀ i, i < len → W.cell? ⟨b, off + i * 4, none⟩ = some (.int .i64 (F i).no) ∧ W.cell? ⟨b, off + i * 4 + 1, none⟩ = some (.int .i64 (F i).c.n) ∧ W.cell? ⟨b, off + i * 4 + 2, none⟩ = some (.int .i64 (F i).c.r) ∧ W.cell? ⟨b, off + i * 4 + 3, none⟩ = some (.string (F i).c.s)) →
   ∃ R A c, Value.agg cs = Rc.v R A c ∧ IsRec W R A c := by
  intro A c len F hs hlc hcm hn hF hcell
  have hl : ((List.range len).map F).length = len := by simp
  have hg : ∀ i, i < len → ((List.range len).map F).getD i fld0 = F i := fun i hi => by simp [List.getD, hi]
  refine ⟨⟨z, n, q, (List.range len).map F⟩, A, c, ?_, ⟨hz16, hzb⟩, ⟨by rw [hl]; exact hlc, hcm, hn, fun h0 => ?_⟩, wn, wr, fun f hf => ?_⟩
  ·unfold Rc.v rv rcells
   dsimp only
   rw [hl, ← hs, ← hcs]
  ·rw [hl] at h0
   obtain ⟨b, off, hA, hb, hc⟩ := hcell h0
   refine ⟨b, off, hA, hb, fun i hi => ?_⟩
   rw [hl] at hi
   dsimp only
   rw [hg i hi]
   exact hc i hi
  ·obtain ⟨i, hi, rfl⟩ := List.mem_map.1 hf
   exact hF i (by simpa using hi)
 rcases open_slice Tryz.underlying34 h2 with ⟨hcs', _⟩ | ⟨ad, len', cap', m', n', D, Pl, hcs', _, hl, hm, hmm, _, hall⟩
 ·obtain rfl : s = .slice none 0 0 := by simpa using hcs'
  exact fin none 0 0 (fun _ => fld0) rfl (Nat.le_refl _) (by decide) (fun _ => rfl) (fun i hi => by omega) (fun h => by omega)
 ·obtain rfl : s = .slice (some ad) len' cap' := by simpa using hcs'
  have key : ∀ i, ∃ f : Fld, i < len' → IsFld f ∧ W.cell? (ad.add (i * 4)) = some (.int .i64 f.no) ∧ W.cell? (ad.add (i * 4 + 1)) = some (.int .i64 f.c.n) ∧ W.cell? (ad.add (i * 4 + 2)) = some (.int .i64 f.c.r) ∧ W.cell? (ad.add (i * 4 + 3)) = some (.string f.c.s) := fun i => by
   by_cases hi : i < len'
   ·obtain ⟨us, hc, hd⟩ := hall i (by rw [hmm]; simp; omega)
    rw [k4] at hc
    obtain ⟨hlen, hat⟩ := cells_at hc
    match us, hlen with
    | [u0, u1, u2, u3], _ =>
     obtain ⟨f, hff, rfl, rfl, rfl, rfl⟩ := fld_trod hd
     refine ⟨f, fun _ => ⟨hff, ?_, ?_, ?_, ?_⟩⟩
     ·have := hat 0 (by omega)
      rwa [add_add] at this
     ·have := hat 1 (by omega)
      rwa [add_add] at this
     ·have := hat 2 (by omega)
      rwa [add_add] at this
     ·have := hat 3 (by omega)
      rwa [add_add] at this
   ·exact ⟨fld0, fun h => absurd h hi⟩
  obtain ⟨F, hFF⟩ : ∃ F : Nat → Fld, ∀ i, i < len' → IsFld (F i) ∧ W.cell? (ad.add (i * 4)) = some (.int .i64 (F i).no) ∧ W.cell? (ad.add (i * 4 + 1)) = some (.int .i64 (F i).c.n) ∧ W.cell? (ad.add (i * 4 + 2)) = some (.int .i64 (F i).c.r) ∧ W.cell? (ad.add (i * 4 + 3)) = some (.string (F i).c.s) := ⟨fun i => (key i).choose, fun i => (key i).choose_spec⟩
  clear key
  refine fin (some ad) cap' len' F rfl hl hm (fun h => by cases h) (fun i hi => (hFF i hi).1) (fun h0 => ?_)
  obtain ⟨b, off, spot⟩ := ad
  have h00 := (hFF 0 h0).2.1
  have hspot : spot = none := by simpa [Addr.add] using World.cell?_spot h00
  subst hspot
  have hlt : b < W.heap.size := by
   rcases Nat.lt_or_ge b W.heap.size with h2 | h2
   ·exact h2
   ·rw [Addr.add_lit, World.cell?] at h00
    rw [Array.getElem?_eq_none h2] at h00
    cases h00
  refine ⟨b, off, rfl, hlt, fun i hi => ?_⟩
  obtain ⟨_, g1, g2, g3, g4⟩ := hFF i hi
  rw [Addr.add_lit] at g1 g2 g3 g4
  exact ⟨g1, g2, g3, g4⟩
end
section
open Go.ChangeShapes Go.WideShapes Go.ChangeAt Go.RowKit Go.Joins Go.Deep WM
set_option maxRecDepth 40000
set_option maxHeartbeats 1000000 in
theorem rec_trod {H : Type} {enc : TypeId × Value → H} {W : World} {fuel : Nat} {l : List Value} {x : DataW H × List MemPlace} (hlen : l.length = 19) (hf : DataW.trod enc Tryz.prog W 0 (fun _ => true) true fuel 36 l = some x) :
  ∃ R A c, l = (rcells R.z R.n R.r (.slice A R.fs.length c)).toList ∧ IsRec W R A c := by
 have k16 : Tryz.prog.cellsOf 31 = 16 := by kernel_rfl
 have k2 : Tryz.prog.cellsOf 33 = 2 := by kernel_rfl
 have k1 : Tryz.prog.cellsOf 34 = 1 := by kernel_rfl
 have k4 : Tryz.prog.cellsOf 59 = 4 := by kernel_rfl
 obtain ⟨zs, x, y, s, hcs, hz⟩ := list19 hlen
 rw [hcs] at hf
 obtain ⟨y0, y1, y2, m, _, _, h0, h1, h2⟩ := trod_struct3 Tryz.underlying36 hf
 dsimp only at h0 h1 h2
 rw [k16, List.drop_zero, ← hz, List.take_left] at h0
 have e1 : ((zs ++ [x, y, s]).drop 16).take 2 = [x, y] := by rw [← hz, List.drop_left]; rfl
 have e2 : ((zs ++ [x, y, s]).drop 18).take 1 = [s] := by
  rw [show zs ++ [x, y, s] = (zs ++ [x, y]) ++ [s] by simp, show 18 = (zs ++ [x, y]).length by simp [hz], List.drop_left]
  rfl
 rw [k2, e1] at h1
 rw [k1, e2] at h2
 obtain ⟨z, rfl, hz16, hzb⟩ := id_trod h0
 obtain ⟨n, q, rfl, rfl, wn, wr⟩ := st_trod h1
 have fin : ∀ (A : Option Addr) (c len : Nat) (F : Nat → Fld), s = .slice A len c → len ≤ c → c ≤ maxLen → (A = none → c = 0) → (∀ i, i < len → IsFld (F i)) →
   (0 < len → ∃ b off, A = some ⟨b, off, none⟩ ∧ b < W.heap.size ∧ ∀ i, i < len → W.cell? ⟨b, off + i * 4, none⟩ = some (.int .i64 (F i).no) ∧ W.cell? ⟨b, off + i * 4 + 1, none⟩ = some (.int .i64 (F i).c.n) ∧ W.cell? ⟨b, off + i * 4 + 2, none⟩ = some (.int .i64 (F i).c.r) ∧ W.cell? ⟨b, off + i * 4 + 3, none⟩ = some (.string (F i).c.s)) →
   ∃ R A c, l = (rcells R.z R.n R.r (.slice A R.fs.length c)).toList ∧ IsRec W R A c := by
  intro A c len F hs hlc hcm hn hF hcell
  have hl : ((List.range len).map F).length = len := by simp
  have hg : ∀ i, i < len → ((List.range len).map F).getD i fld0 = F i := fun i hi => by simp [List.getD, hi]
  refine ⟨⟨z, n, q, (List.range len).map F⟩, A, c, ?_, ⟨hz16, hzb⟩, ⟨by rw [hl]; exact hlc, hcm, hn, fun h0 => ?_⟩, wn, wr, fun f hf => ?_⟩
  ·unfold rcells
   dsimp only
   rw [hl, ← hs, hcs]
  ·rw [hl] at h0
   obtain ⟨b, off, hA, hb, hc⟩ := hcell h0
   refine ⟨b, off, hA, hb, fun i hi => ?_⟩
   rw [hl] at hi
   dsimp only
   rw [hg i hi]
   exact hc i hi
  ·obtain ⟨i, hi, rfl⟩ := List.mem_map.1 hf
   exact hF i (by simpa using hi)
 rcases open_slice Tryz.underlying34 h2 with ⟨hcs', _⟩ | ⟨ad, len', cap', m', n', D, Pl, hcs', _, hl, hm, hmm, _, hall⟩
 ·obtain rfl : s = .slice none 0 0 := by simpa using hcs'
  exact fin none 0 0 (fun _ => fld0) rfl (Nat.le_refl _) (by decide) (fun _ => rfl) (fun i hi => by omega) (fun h => by omega)
 ·obtain rfl : s = .slice (some ad) len' cap' := by simpa using hcs'
  have key : ∀ i, ∃ f : Fld, i < len' → IsFld f ∧ W.cell? (ad.add (i * 4)) = some (.int .i64 f.no) ∧ W.cell? (ad.add (i * 4 + 1)) = some (.int .i64 f.c.n) ∧ W.cell? (ad.add (i * 4 + 2)) = some (.int .i64 f.c.r) ∧ W.cell? (ad.add (i * 4 + 3)) = some (.string f.c.s) := fun i => by
   by_cases hi : i < len'
   ·obtain ⟨us, hc, hd⟩ := hall i (by rw [hmm]; simp; omega)
    rw [k4] at hc
    obtain ⟨hlen, hat⟩ := cells_at hc
    match us, hlen with
    | [u0, u1, u2, u3], _ =>
     obtain ⟨f, hff, rfl, rfl, rfl, rfl⟩ := fld_trod hd
     refine ⟨f, fun _ => ⟨hff, ?_, ?_, ?_, ?_⟩⟩
     ·have := hat 0 (by omega)
      rwa [add_add] at this
     ·have := hat 1 (by omega)
      rwa [add_add] at this
     ·have := hat 2 (by omega)
      rwa [add_add] at this
     ·have := hat 3 (by omega)
      rwa [add_add] at this
   ·exact ⟨fld0, fun h => absurd h hi⟩
  obtain ⟨F, hFF⟩ : ∃ F : Nat → Fld, ∀ i, i < len' → IsFld (F i) ∧ W.cell? (ad.add (i * 4)) = some (.int .i64 (F i).no) ∧ W.cell? (ad.add (i * 4 + 1)) = some (.int .i64 (F i).c.n) ∧ W.cell? (ad.add (i * 4 + 2)) = some (.int .i64 (F i).c.r) ∧ W.cell? (ad.add (i * 4 + 3)) = some (.string (F i).c.s) := ⟨fun i => (key i).choose, fun i => (key i).choose_spec⟩
  clear key
  refine fin (some ad) cap' len' F rfl hl hm (fun h => by cases h) (fun i hi => (hFF i hi).1) (fun hpos => ?_)
  obtain ⟨b, off, spot⟩ := ad
  have h00 := (hFF 0 hpos).2.1
  have hspot : spot = none := by simpa [Addr.add] using World.cell?_spot h00
  subst hspot
  have hlt : b < W.heap.size := by
   rcases Nat.lt_or_ge b W.heap.size with h2 | h2
   ·exact h2
   ·rw [Addr.add_lit, World.cell?] at h00
    rw [Array.getElem?_eq_none h2] at h00
    cases h00
  refine ⟨b, off, rfl, hlt, fun i hi => ?_⟩
  obtain ⟨_, g1, g2, g3, g4⟩ := hFF i hi
  rw [Addr.add_lit] at g1 g2 g3 g4
  exact ⟨g1, g2, g3, g4⟩
set_option maxHeartbeats 1000000 in
theorem open_bk {H : Type} {enc : TypeId × Value → H} {W : World} {r : Reach} {b0 : Nat} {v : Value} {d : DataW H} {p : List MemPlace}
  (hv : Value.okWide Tryz.prog W r b0 24 v) (h : DataW.Trod enc Tryz.prog W 0 (fun _ => true) true 24 v d p) : ∃ b : Bk, v = .agg #[.slice b.A b.xs.length b.c] ∧ BkAt W b := by
 obtain ⟨cs, rfl, hsz⟩ := okWide_struct Tryz.underlying24 hv
 have k1 : Tryz.prog.cellsOf 24 = 1 := by kernel_rfl
 have k19 : Tryz.prog.cellsOf 36 = 19 := by kernel_rfl
 have ks : Tryz.prog.cellsOf 22 = 1 := by kernel_rfl
 obtain ⟨fuel, hf⟩ := h
 have hl : cs.toList.length = 1 := (Array.length_toList).trans (hsz.trans k1)
 obtain ⟨s, hcs⟩ : ∃ s, cs.toList = [s] := by
  match hm : cs.toList, hl with
  | [s], _ => exact ⟨s, rfl⟩
 have hca : cs = #[s] := by rw [← Array.toArray_toList (xs := cs), hcs]
 have hc : (Value.agg cs).cells.toList = [s] := hcs
 rw [hc] at hf
 obtain ⟨y0, m, _, _, h0⟩ := trod_struct1 Tryz.underlying24 hf
 dsimp only at h0
 rw [ks, List.drop_zero, List.take_of_length_le (by simp)] at h0
 have fin : ∀ (A : Option Addr) (c len : Nat) (F : Nat → RcA), s = .slice A len c → len ≤ c → c ≤ maxLen → (A = none → c = 0) → (∀ i, i < len → RvAt W (F i)) →
   (0 < len → ∃ b off, A = some ⟨b, off, none⟩ ∧ b < W.heap.size ∧ ∀ i, i < len → RecAt W b (off + i * 19) (F i)) → ∃ b : Bk, Value.agg cs = .agg #[.slice b.A b.xs.length b.c] ∧ BkAt W b := by
  intro A c len F hs hlc hcm hn hF hcell
  have hl : ((List.range len).map F).length = len := by simp
  have hg : ∀ i, i < len → ((List.range len).map F).getD i rcA0 = F i := fun i hi => by simp [List.getD, hi]
  refine ⟨⟨(List.range len).map F, A, c⟩, ?_, by rw [hl]; exact hlc, hcm, hn, fun h0 => ?_, fun x hx => ?_⟩
  ·dsimp only
   rw [hl, ← hs, hca]
  ·dsimp only at h0
   rw [hl] at h0
   obtain ⟨b, off, hA, hb, hc⟩ := hcell h0
   refine ⟨b, off, hA, hb, fun i hi => ?_⟩
   dsimp only at hi ⊢
   rw [hl] at hi
   rw [hg i hi]
   exact hc i hi
  ·obtain ⟨i, hi, rfl⟩ := List.mem_map.1 hx
   exact hF i (by simpa using hi)
 rcases open_slice Tryz.underlying22 h0 with ⟨hcs', _⟩ | ⟨ad, len', cap', m', n', D, Pl, hcs', _, hl, hm, hmm, _, hall⟩
 ·obtain rfl : s = .slice none 0 0 := by simpa using hcs'
  exact fin none 0 0 (fun _ => rcA0) rfl (Nat.le_refl _) (by decide) (fun _ => rfl) (fun i hi => by omega) (fun h => by omega)
 ·obtain rfl : s = .slice (some ad) len' cap' := by simpa using hcs'
  have key : ∀ i, ∃ x : RcA, i < len' → RvAt W x ∧ ∀ j, j < 19 → W.cell? (ad.add (i * 19 + j)) = x.cs[j]? := fun i => by
   by_cases hi : i < len'
   ·obtain ⟨us, hc, hd⟩ := hall i (by rw [hmm]; simp; omega)
    rw [k19] at hc
    obtain ⟨hlen, hat⟩ := cells_at hc
    obtain ⟨R, A, c, he, hr⟩ := rec_trod hlen hd
    refine ⟨⟨R, A, c⟩, fun _ => ⟨⟨hr.1, hr.2.1⟩, fun j hj => ?_⟩⟩
    have h2 := hat j hj
    rw [add_add] at h2
    rw [h2]
    show _ = (rcells R.z R.n R.r (.slice A R.fs.length c)).toList[j]?
    rw [← he]
   ·exact ⟨rcA0, fun h => absurd h hi⟩
  obtain ⟨F, hFF⟩ : ∃ F : Nat → RcA, ∀ i, i < len' → RvAt W (F i) ∧ ∀ j, j < 19 → W.cell? (ad.add (i * 19 + j)) = (F i).cs[j]? := ⟨fun i => (key i).choose, fun i => (key i).choose_spec⟩
  clear key
  refine fin (some ad) cap' len' F rfl hl hm (fun h => by cases h) (fun i hi => (hFF i hi).1) (fun hpos => ?_)
  obtain ⟨b, off, spot⟩ := ad
  have h00 := (hFF 0 hpos).2 0 (by omega)
  rw [List.getElem?_eq_getElem (by rw [cs_len (hFF 0 hpos).1.len]; omega)] at h00
  have hspot : spot = none := by simpa [Addr.add] using World.cell?_spot h00
  subst hspot
  have hlt : b < W.heap.size := by
   rcases Nat.lt_or_ge b W.heap.size with h2 | h2
   ·exact h2
   ·rw [Addr.add_lit, World.cell?] at h00
    rw [Array.getElem?_eq_none h2] at h00
    cases h00
  refine ⟨b, off, rfl, hlt, fun i hi => ⟨(hFF i hi).1.len, fun j hj => ?_⟩⟩
  have := (hFF i hi).2 j hj
  rw [Addr.add_lit] at this
  rw [← this]
  congr 2
  omega
end
end
end Go.Proofs.YtnlhkpmgbpfjmaaGreatDoor
