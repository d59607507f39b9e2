import Derived.Test.YtkjimhlpbgeagaaDoorC0
import Derived.Test.YtkjimhlpbgeagaaDoorC2
import Derived.Test.YtkjimhlpbgeagaaDoorC8
import Derived.Test.YtkjimhlpbgeagaaDoorC5
import Derived.RangeFuncBox
import Derived.Maps.OwnSet
import Derived.Maps.Views
import Derived.DeepKeys4
import Derived.Test.YtkjimhlpbgeagaaDoorC1
/-
  What the functions that a law of this layer reaches answer, part 9. Nothing that was there is written.
-/
namespace Go.Proofs.YtkjimhlpbgeagaaDoor
set_option linter.unusedVariables false
set_option linter.unusedSimpArgs false
section
section
open Go.RowKit WM
set_option maxRecDepth 100000
theorem ix_strR (s : ByteArray) (k : Nat) (hk : k < (nums s).length) (K : Int) (e : K = k) (w : World) : (Instr.index 9 (.string s) (.int .i64 K)).run Tryd.prog w = .ok (.int .u8 ((nums s).getD k 0)) w := by
 subst e
 have hs : k < s.size := by rw [nums_len] at hk; exact hk
 have hd : k < s.data.toList.length := by rw [Array.length_toList]; exact hs
 rw [run_index_string (P := Tryd.prog) w 9 s .i64 k Tryd.underlying9]
 simp [nums, List.getD, hs]
 rfl
theorem byte_at (s : ByteArray) (k : Nat) : 0 ≤ (nums s).getD k 0 ∧ (nums s).getD k 0 ≤ 255 := by
 rw [List.getD_eq_getElem?_getD]
 rcases Nat.lt_or_ge k (nums s).length with h | h
 ·rw [List.getElem?_eq_getElem h]
  exact nums_bytes s _ (List.getElem_mem h)
 ·rw [List.getElem?_eq_none h]
  simp
end
section
open Go.RowKit WM
set_option maxRecDepth 20000
theorem nums_extract (s : ByteArray) (i j : Nat) : nums (s.extract i j) = ((nums s).drop i).take (j - i) := by
 unfold nums
 rw [ByteArray.data_extract, Array.toList_extract]
 simp [List.extract, List.map_drop, List.map_take]
theorem extract_size (s : ByteArray) (i j : Nat) (hj : j ≤ s.size) : (s.extract i j).size = j - i := by rw [ByteArray.size_extract]; omega
end
section
open Go.RowKit WM
set_option maxRecDepth 100000
end
section
open Go.RowKit WM
set_option maxRecDepth 100000
theorem shl16 (b : Nat) : Op.shift BinOp.shl .u32 (b : Int) .u64 16 = pure (.int .u32 ((b * 65536 % 4294967296 : Nat) : Int)) := by
 rw [shift_shl_any _ _ _ _ (by omega), IntKind.wrap_u32', show IntKind.u32.bits = 32 from rfl]
 congr 2
theorem mask16 (a : Nat) (h : a < 4294967296) : bits .and .u32 (a : Int) 65535 = ((a % 65536 : Nat) : Int) := by
 rw [show (65535 : Int) = ((65535 : Nat) : Int) from rfl, u32_and_nat _ _ h (by omega)]
 congr 1
 exact Nat.and_two_pow_sub_one_eq_mod a 16
theorem both16 (a b : Nat) : bits .or .u32 ((b * 65536 % 4294967296 : Nat) : Int) ((a % 65536 : Nat) : Int) = ((65536 * (b % 65536) + a % 65536 : Nat) : Int) := by
 rw [u32_or_nat _ _ (Nat.mod_lt _ (by omega)) (by omega)]
 congr 1
 have e : b * 65536 % 4294967296 = (b % 65536) <<< 16 := by rw [Nat.shiftLeft_eq]; omega
 rw [e, ← Nat.shiftLeft_add_eq_or_of_lt (by omega : a % 65536 < 2 ^ 16), Nat.shiftLeft_eq]
 omega
theorem rlchk_any (a b : Nat) (w : World) (ha : a < 4294967296) : Calls Tryd.prog 79 #[.int .u32 a, .int .u32 b] w fun e w' => e = .returned (.int .u32 ((65536 * (b % 65536) + a % 65536 : Nat) : Int)) ∧ Below w.heap.size w w' := by
 have HB := Lib.hid (Below.refl w.heap.size w)
 have h1 := shl16 b
 have h2 := mask16 a ha
 have h3 := both16 a b
 generalize ((65536 * (b % 65536) + a % 65536 : Nat) : Int) = r at *
 generalize ((b * 65536 % 4294967296 : Nat) : Int) = p at *
 generalize ((a % 65536 : Nat) : Int) = q at *
 clear ha
 go_enter Tryd.func79, Tryd.ntmps79
 go_wp2
 go_ret
 exact ⟨rfl, HB.out⟩
theorem take_sA {zs : List Int} {k : Nat} (h : k < zs.length) : sA (zs.take (k + 1)) = sA (zs.take k) + zs.getD k 0 := by
 rw [List.take_succ_eq_append_getElem h, sA_append, List.getD_eq_getElem?_getD, List.getElem?_eq_getElem h]
 simp [sA]
theorem take_sB {zs : List Int} {k : Nat} (h : k < zs.length) : sB (zs.take (k + 1)) = sB (zs.take k) + sA (zs.take (k + 1)) := by
 rw [take_sA h, List.take_succ_eq_append_getElem h, sB_append, List.getD_eq_getElem?_getD, List.getElem?_eq_getElem h]
 simp [sB]
 omega
theorem u32_nat (x : Int) : ∃ n : Nat, n < 4294967296 ∧ IntKind.u32.wrap x = (n : Int) ∧ (n : Int) = x % 4294967296 := ⟨(x % 4294967296).toNat, by omega, by rw [IntKind.wrap_u32']; omega, by omega⟩
set_option maxHeartbeats 4000000 in
theorem rlsum_any (s : ByteArray) (w : World) (hs : s.size ≤ 1000000) : Calls Tryd.prog 74 #[.string s] w fun e w' => e = .returned (.int .u32 (rlS (nums s))) ∧ Below w.heap.size w w' := by
 have HB := Lib.hid (Below.refl w.heap.size w)
 obtain ⟨n, hn⟩ : ∃ n, n = s.size := ⟨_, rfl⟩
 have HN := Lib.hid (show (nums s).length = n by rw [nums_len, hn])
 have hlen : s.size = n := hn.symm
 clear hn
 go_enter Tryd.func74, Tryd.ntmps74
 go_wp2
 go_loopw [3, 4, 8] (fun a b i wr => ∃ (k A B : Nat), k ≤ n ∧ i = .int .i64 k ∧ a = .int .u32 A ∧ b = .int .u32 B ∧ A < 4294967296 ∧ B < 4294967296 ∧ (A : Int) = (sA ((nums s).take k)) % 4294967296 ∧ (B : Int) = (sB ((nums s).take k)) % 4294967296 ∧ Below w.heap.size w wr) (fun _ _ i _ => n - (intOf i).toNat)
 case atStart => exact ⟨0, 0, 0, Nat.zero_le _, rfl, rfl, rfl, by omega, by omega, by simp [sA], by simp [sB], HB.out⟩
 case round =>
  obtain ⟨k, A, B, hk, rfl, rfl, rfl, hA0, hB0, hA, hB, hb⟩ := hrel
  have HBB := Lib.hid hb
  by_cases hlt : k < n
  ·have hkl : k < (nums s).length := by rw [HN.out]; exact hlt
   have t1 : (k : Int) < (n : Int) := by omega
   have hix := ix_strR s k hkl k rfl
   have dA := take_sA hkl
   have dB := take_sB hkl
   have hz := byte_at s k
   generalize (nums s).getD k 0 = z at *
   have f1 : IntKind.u32.wrap z = z := IntWalk.u32_in _ (by omega)
   obtain ⟨A', hA1, f2, hA2⟩ := u32_nat ((A : Int) + z)
   obtain ⟨B', hB1, f3, hB2⟩ := u32_nat ((B : Int) + (A' : Int))
   have HF : Hid ((A' : Int) = (sA ((nums s).take (k + 1))) % 4294967296 ∧ (B' : Int) = (sB ((nums s).take (k + 1))) % 4294967296) := Lib.hid ⟨by omega, by omega⟩
   clear hA hB dA dB hA2 hB2 hb hkl
   go_wp2
   go_roundw
   case rel => exact ⟨k + 1, A', B', by omega, by go_num, rfl, rfl, hA1, hB1, HF.out.1, HF.out.2, HBB.out⟩
   case measure => simp [intOf]; omega
  ·obtain rfl : k = n := by omega
   have t1 : ¬ (k : Int) < (k : Int) := by omega
   have hd : (nums s).take k = nums s := List.take_of_length_le (by rw [HN.out]; exact Nat.le_refl _)
   rw [hd] at hA hB
   have HV : Hid (rlS (nums s) = ((65536 * (B % 65536) + A % 65536 : Nat) : Int)) := Lib.hid (by unfold rlS; omega)
   have HC := Lib.hid (fun w => rlchk_any A B w hA0)
   generalize ((65536 * (B % 65536) + A % 65536 : Nat) : Int) = R at HV HC
   clear hA hB hd hb
   go_wp2_with fail
   refine (HC.out _).mono ?_
   rintro e w1 ⟨rfl, hb⟩
   have B1 := Lib.hid (HBB.out.trans (hb.mono HBB.out.size))
   clear hb
   go_wp2
   go_ret
   exact ⟨by rw [HV.out]; rfl, B1.out⟩
end
end
section
open Go.RowKit WM
set_option maxRecDepth 100000
def Sg.cs (x : Sg) : List Value := .int .u32 x.wk :: x.ds.map (Value.int .u8)
theorem Sg.cs_len {x : Sg} (h : x.Ok) : x.cs.length = 33 := by simp [Sg.cs, h.2.2.1]
theorem Sg.cs_one (x : Sg) (u : Value) (hu : u ∈ x.cs) : u.oneCell' = true := by
 rcases List.mem_cons.1 hu with rfl | hu
 ·rfl
 ·obtain ⟨z, _, rfl⟩ := List.mem_map.1 hu
  rfl
def KSig : Kind Sg := { n := 33, pos := by decide, cs := Sg.cs, d := sg0, ok := fun _ x => x.Ok, len := fun h => Sg.cs_len h, one := Sg.cs_one, below := fun h _ => h }
theorem sizeSig (w : World) : (sizeOf 107).run Tryd.prog w = .ok 33 w := by
 simp [sizeOf, go_sem]
 rfl
theorem infoSig : (Tryd.prog.info? 107).map (fun i => (i.zero, i.size, i.bytes)) = some (some (KSig.v ⟨0, List.replicate 32 0⟩), 33, 36) := by kernel_rfl
theorem zeroSig (w : World) : (zeroValue 107).run Tryd.prog w = .ok (KSig.v ⟨0, List.replicate 32 0⟩) w := by
 obtain ⟨i, hi, hz, hs, hb⟩ := info_parts infoSig
 simp [zeroValue, typeInfo, hi, hz, Sem.run_bind]
theorem sig_inj {x y : Sg} (h : KSig.v x = KSig.v y) : x = y := by
 have h1 := congrArg (fun v => v.cells.toList) h
 simp only [Kind.v, KSig, Sg.cs, Value.cells, List.cons.injEq, Value.int.injEq, true_and] at h1
 obtain ⟨h2, h3⟩ := h1
 have h4 : (x.ds.map (Value.int .u8)).map intOf = (y.ds.map (Value.int .u8)).map intOf := congrArg (List.map intOf) h3
 rw [List.map_map, List.map_map] at h4
 have h5 : x.ds = y.ds := by simpa [Function.comp_def, intOf] using h4
 cases x
 cases y
 simp_all
theorem mapM_givesS {α β : Type} {f : α → Option β} {g : α → β} : ∀ (l : List α), (∀ x ∈ l, f x = some (g x)) → l.mapM f = some (l.map g)
 | [], _ => rfl
 | x :: l, h => by
  rw [List.mapM_cons, h x (by simp), mapM_givesS l (fun y hy => h y (by simp [hy]))]
  rfl
theorem key_dig {z : List Int} (h : z.length = 32) (hb : AllBytes z) (d : Nat) : ∃ ls, Tryd.prog.keyLits (d + 2) 23 (z.map (Value.int .u8)) = some ls := by
 have c1 : Tryd.prog.cellsOf 5 = 1 := by kernel_rfl
 have c32 : Tryd.prog.cellsOf 23 = 32 := by kernel_rfl
 unfold Program.keyLits
 rw [Tryd.underlying23]
 dsimp only
 rw [if_pos (by rw [List.length_map, h, c32])]
 rw [mapM_givesS (g := fun i => [Lit.int .u8 (z.getD i 0)]) _ (fun i hi => ?_)]
 ·exact ⟨_, rfl⟩
 ·have hi : i < 32 := by simpa using hi
  have e : ((z.map (Value.int .u8)).drop (i * Tryd.prog.cellsOf 5)).take (Tryd.prog.cellsOf 5) = [.int .u8 (z.getD i 0)] := by
   rw [c1, Nat.mul_one]
   apply List.ext_getElem?
   intro j
   cases j with
   | zero => simp [List.getD, List.getElem?_eq_getElem (show i < z.length by omega)]
   | succ j => rw [List.getElem?_eq_none (by simp; omega), List.getElem?_eq_none (by simp)]
  rw [e]
  have hz := hb (z.getD i 0) (by rw [List.getD_eq_getElem?_getD, List.getElem?_eq_getElem (show i < z.length by omega)]; exact List.getElem_mem _)
  unfold Program.keyLits
  rw [Tryd.underlying5]
  dsimp only
  rw [if_pos]
  refine ⟨rfl, ?_⟩
  generalize z.getD i 0 = q at *
  simp [Lit.wf, IntKind.min, IntKind.max, IntKind.bits, IntKind.signed]
  omega
theorem key_sig {x : Sg} (h : x.Ok) : ∃ l, keyOf Tryd.prog 107 (KSig.v x) = some l := by
 have c33 : Tryd.prog.cellsOf 107 = 33 := by kernel_rfl
 have c32 : Tryd.prog.cellsOf 23 = 32 := by kernel_rfl
 have c1 : Tryd.prog.cellsOf 81 = 1 := by kernel_rfl
 have kt : Tryd.prog.keyType 107 = true := by kernel_rfl
 have hs : ∃ d, Tryd.prog.types.size + 1 = d + 3 := ⟨Tryd.prog.types.size - 2, by have : 2 ≤ Tryd.prog.types.size := of_decide_eq_true (by kernel_rfl); omega⟩
 obtain ⟨d, hd⟩ := hs
 obtain ⟨ls, hls⟩ := key_dig h.2.2.1 h.2.2.2 d
 have hw : (Lit.int .u32 x.wk).wf = true := by
  have := h.1
  have := h.2.1
  simp [Lit.wf, IntKind.min, IntKind.max, IntKind.bits, IntKind.signed]
  omega
 have h1 : Tryd.prog.keyLits (d + 2) 81 [.int .u32 x.wk] = some [Lit.int .u32 x.wk] := by
  unfold Program.keyLits
  rw [Tryd.underlying81]
  dsimp only
  rw [if_pos ⟨rfl, hw⟩]
 have hk : ∃ l, Tryd.prog.keyLits (d + 3) 107 x.cs = some l := by
  unfold Program.keyLits
  rw [Tryd.underlying107]
  dsimp only
  rw [if_pos ⟨by rw [Sg.cs_len h, c33], by kernel_rfl⟩]
  simp only [List.mapM_cons, List.mapM_nil, c32, c1, Sg.cs]
  rw [show List.take 1 (List.drop 0 (Value.int .u32 x.wk :: x.ds.map (Value.int .u8))) = [Value.int .u32 x.wk] from rfl, h1]
  rw [show List.take 32 (List.drop 1 (Value.int .u32 x.wk :: x.ds.map (Value.int .u8))) = x.ds.map (Value.int .u8) from List.take_of_length_le (by simp [h.2.2.1]), hls]
  exact ⟨_, rfl⟩
 obtain ⟨l, hl⟩ := hk
 refine ⟨.string (keyBytes l), ?_⟩
 unfold keyOf
 rw [Tryd.underlying107]
 dsimp only
 rw [if_pos (by rw [kt]; simp [Value.formed, Kind.v, KSig, Tryd.underlying107, Sg.cs_len h, c33]), hd]
 show ((Tryd.prog.keyLits (d + 3) 107 x.cs).map fun ls => Lit.string (keyBytes ls)) = _
 rw [hl]
 rfl
theorem sgLaw : WideMaps.KeyLaw Tryd.prog 107 := deep_law (m := 3) (by decide) (by kernel_rfl) (by kernel_rfl) (by rw [Tryd.underlying107])
theorem eq_sig {x y : Sg} (hx : x.Ok) (hy : y.Ok) (w : World) : (Op.equalIn 10000 107 (KSig.v x) (KSig.v y)).run Tryd.prog w = .ok (decide (x = y)) w := by
 obtain ⟨k, hk⟩ := key_sig hx
 obtain ⟨l, hl⟩ := key_sig hy
 obtain ⟨r, h1, h2⟩ := run_equal_deep w (m := 3) (by decide) (k := 107) (by kernel_rfl) (by rw [Tryd.underlying107]) hk hl
 have h3 : r = decide (x = y) := by
  rw [Bool.eq_iff_iff, h2, decide_eq_true_iff]
  constructor
  ·rintro rfl
   exact sig_inj (sgLaw.inj hk hl)
  ·rintro rfl
   rw [hk] at hl
   exact Option.some.inj hl
 rw [← h3]
 exact h1
theorem list32 {z : List Int} (h : z.length = 32) : ∃ a0 a1 a2 a3 a4 a5 a6 a7 a8 a9 a10 a11 a12 a13 a14 a15 a16 a17 a18 a19 a20 a21 a22 a23 a24 a25 a26 a27 a28 a29 a30 a31, z = [a0, a1, a2, a3, a4, a5, a6, a7, a8, a9, a10, a11, a12, a13, a14, a15, a16, a17, a18, a19, a20, a21, a22, a23, a24, a25, a26, a27, a28, a29, a30, a31] := by
 match z, h with
 | [a0, a1, a2, a3, a4, a5, a6, a7, a8, a9, a10, a11, a12, a13, a14, a15, a16, a17, a18, a19, a20, a21, a22, a23, a24, a25, a26, a27, a28, a29, a30, a31], _ => exact ⟨a0, a1, a2, a3, a4, a5, a6, a7, a8, a9, a10, a11, a12, a13, a14, a15, a16, a17, a18, a19, a20, a21, a22, a23, a24, a25, a26, a27, a28, a29, a30, a31, rfl⟩
theorem built_list {z : List Int} (h : z.length = 32) (n : Int) : Tryd.prog.built 107 [(0, .int .u32 n), (1, .agg (bvals z))] = some (KSig.cs ⟨n, z⟩).toArray := by
 obtain ⟨a0, a1, a2, a3, a4, a5, a6, a7, a8, a9, a10, a11, a12, a13, a14, a15, a16, a17, a18, a19, a20, a21, a22, a23, a24, a25, a26, a27, a28, a29, a30, a31, rfl⟩ := list32 h
 kernel_rfl
theorem build_sig {x : Sg} (h : x.ds.length = 32) (w : World) : (Instr.build 107 #[(0, .int .u32 x.wk), (1, .agg (bvals x.ds))]).run Tryd.prog w = .ok (KSig.v x) w := run_build w _ _ _ (built_list h x.wk)
theorem sizeSigK (w : World) : (sizeOf 107).run Tryd.prog w = .ok KSig.n w := sizeSig w
theorem nSig : KSig.n ≤ 1000 := by decide
def sgz : Sg := ⟨0, List.replicate 32 0⟩
theorem sgz_ok : sgz.Ok := by unfold sgz Sg.Ok AllBytes; decide
theorem sig_size {x : Sg} (h : x.Ok) : (Tryd.prog.info? 107).map (·.size) = some (KSig.cs x).toArray.size := by
 obtain ⟨i, hi, _, hs, _⟩ := info_parts infoSig
 rw [hi, List.size_toArray, show (KSig.cs x).length = 33 from Sg.cs_len h, ← hs]
 rfl
theorem sig_same {x y : Sg} (hx : x.Ok) (hy : y.Ok) : (KSig.cs x).toArray.size = (KSig.cs y).toArray.size := by
 rw [List.size_toArray, List.size_toArray, show (KSig.cs x).length = 33 from Sg.cs_len hx, show (KSig.cs y).length = 33 from Sg.cs_len hy]
theorem sig_ones (x : Sg) : (KSig.cs x).toArray.all (·.oneCell') = true := by
 rw [Array.all_eq_true_iff_forall_mem]
 intro u hu
 exact KSig.one x u (by simpa using hu)
theorem load_sig {w : World} {b o : Nat} {x : Sg} (h : KSig.at w b o x) (hx : x.Ok) : (loadVar 107 ⟨b, o, none⟩).run Tryd.prog w = .ok (KSig.v x) w :=
 Kind.at_load h (Sg.cs_len hx) Tryd.underlying107 rfl (by obtain ⟨i, hi, _, hs, _⟩ := info_parts infoSig; rw [hi]; exact congrArg some hs)
theorem sig_row {w : World} {A : Option Addr} {c : Nat} {xs : List Sg} (h : KSig.row w A c xs) (h0 : 0 < xs.length) : ∃ b off, A = some ⟨b, off, none⟩ ∧ b < w.heap.size ∧ (∀ i, i < xs.length → KSig.at w b (off + i * 33) (xs.getD i sg0)) ∧ ∀ (i : Nat), i < xs.length → ∀ (I : Int), I = i → ∀ (X : World), (Instr.indexAt 50 (.slice (some ⟨b, off, none⟩) xs.length c) (.int .i64 I)).run Tryd.prog X = .ok (.pointer (some ⟨b, off + i * 33, none⟩)) X := by
 obtain ⟨b, off, hA, hb, hc⟩ := h.2.2.2.1 h0
 exact ⟨b, off, hA, hb, hc, fun i hi I e X => Kind.ix (K := KSig) (P := Tryd.prog) (ts := 50) Tryd.underlying50 (fun w => sizeSig w) hi I e X⟩
theorem load_sigK {w w9 : World} {b o : Nat} {x : Sg} (h : KSig.at w b o x) (hx : x.Ok) (hb : Below w.heap.size w w9) (hlt : b < w.heap.size) : (loadVar 107 ⟨b, o, none⟩).run Tryd.prog w9 = .ok (KSig.v x) w9 :=
 load_sig (Kind.at_same h (hb.block b hlt)) hx
theorem guardSig : Tryd.prog.eqGuardType Tryd.prog.depth 107 = false := by kernel_rfl
theorem byte_ones (x : List Int) (u : Value) (hu : u ∈ x.map (Value.int .u8)) : u.oneCell' = true := by
 obtain ⟨z, _, rfl⟩ := List.mem_map.1 hu
 rfl
def KDig : Kind (List Int) := { n := 32, pos := by decide, cs := fun z => z.map (Value.int .u8), d := [], ok := fun _ z => z.length = 32 ∧ AllBytes z, len := fun h => (List.length_map _).trans h.1, one := byte_ones, below := fun h _ => h }
theorem sig_dig {w : World} {b o : Nat} {x : Sg} (h : KSig.at w b o x) : KDig.at w b (o + 1) x.ds := fun j hj => by
 have h1 := h (j + 1) (show j + 1 < 33 by have : j < 32 := hj; omega)
 rw [show o + (j + 1) = o + 1 + j by omega] at h1
 rw [h1]
 show (Value.int .u32 x.wk :: x.ds.map (Value.int .u8))[j + 1]? = _
 rw [List.getElem?_cons_succ]
 rfl
theorem load_dig {w : World} {b o : Nat} {z : List Int} (h : KDig.at w b o z) (hz : z.length = 32) : (loadVar 23 ⟨b, o, none⟩).run Tryd.prog w = .ok (.agg (bvals z)) w :=
 Kind.at_load (K := KDig) h (by show (z.map (Value.int .u8)).length = 32; rw [List.length_map, hz]) Tryd.underlying23 rfl (by rw [sizeD]; rfl)
theorem sig_wk {w : World} {b o : Nat} {x : Sg} (h : KSig.at w b o x) : w.cell? ⟨b, o, none⟩ = some (.int .u32 x.wk) := (h 0 (by decide)).trans rfl
theorem guardDig : Tryd.prog.eqGuardType Tryd.prog.depth 23 = false := by kernel_rfl
end
section
open Go.RowKit WM
set_option maxRecDepth 100000
structure EnA where
 e : En
 A : Option Addr
 c : Nat
structure LnA where
 z : List Int
 n : Int
 r : Int
 A : Option Addr
 c : Nat
 es : List EnA
structure MnA where
 base : List Int
 A : Option Addr
 c : Nat
 ls : List LnA
def enA0 : EnA := ⟨en0, none, 0⟩
def lnA0 : LnA := ⟨z16m, 0, 0, none, 0, []⟩
def mnA0 : MnA := ⟨z32m, none, 0, []⟩
def LnA.x (x : LnA) : Ln := ⟨x.z, x.n, x.r, x.es.map (·.e)⟩
def MnA.m (m : MnA) : Mn := ⟨m.base, m.ls.map (·.x)⟩
def EnA.cs (x : EnA) : List Value := .int .i64 x.e.no :: .int .i64 x.e.n :: .int .i64 x.e.r :: .int .i64 x.e.len :: (x.e.ds.map (Value.int .u8) ++ [.slice x.A x.e.bs.length x.c])
def LnA.cs (x : LnA) : List Value := x.z.map (Value.int .u8) ++ [.int .i64 x.n, .int .i64 x.r, .slice x.A x.es.length x.c]
def MnA.cs (m : MnA) : List Value := m.base.map (Value.int .u8) ++ [.slice m.A m.ls.length m.c]
def EnA.Ok (w : World) (x : EnA) : Prop := (Lit.int .i64 x.e.no).wf = true ∧ (Lit.int .i64 x.e.n).wf = true ∧ (Lit.int .i64 x.e.r).wf = true ∧ (Lit.int .i64 x.e.len).wf = true ∧ x.e.ds.length = 32 ∧ AllBytes x.e.ds ∧ KSig.row w x.A x.c x.e.bs
theorem EnA.len {w : World} {x : EnA} (h : x.Ok w) : x.cs.length = 37 := by simp [EnA.cs, h.2.2.2.2.1]
theorem EnA.one (x : EnA) (u : Value) (hu : u ∈ x.cs) : u.oneCell' = true := by
 simp only [EnA.cs, List.mem_cons, List.mem_append, List.not_mem_nil, or_false] at hu
 rcases hu with rfl | rfl | rfl | rfl | hu | rfl
 ·rfl
 ·rfl
 ·rfl
 ·rfl
 ·exact byte_ones _ u hu
 ·rfl
theorem EnA.below {w w' : World} {x : EnA} (h : x.Ok w) (hb : Below w.heap.size w w') : x.Ok w' := ⟨h.1, h.2.1, h.2.2.1, h.2.2.2.1, h.2.2.2.2.1, h.2.2.2.2.2.1, Kind.row_below h.2.2.2.2.2.2 hb (Nat.le_refl _)⟩
def KEn : Kind EnA := { n := 37, pos := by decide, cs := EnA.cs, d := enA0, ok := fun w x => x.Ok w, len := fun h => EnA.len h, one := EnA.one, below := fun h hb => EnA.below h hb }
def LnA.Ok (w : World) (x : LnA) : Prop := x.z.length = 16 ∧ AllBytes x.z ∧ (Lit.int .i64 x.n).wf = true ∧ (Lit.int .i64 x.r).wf = true ∧ KEn.row w x.A x.c x.es
theorem LnA.len {w : World} {x : LnA} (h : x.Ok w) : x.cs.length = 19 := by simp [LnA.cs, h.1]
theorem LnA.one (x : LnA) (u : Value) (hu : u ∈ x.cs) : u.oneCell' = true := by
 simp only [LnA.cs, List.mem_cons, List.mem_append, List.not_mem_nil, or_false] at hu
 rcases hu with hu | rfl | rfl | rfl
 ·exact byte_ones _ u hu
 ·rfl
 ·rfl
 ·rfl
theorem LnA.below {w w' : World} {x : LnA} (h : x.Ok w) (hb : Below w.heap.size w w') : x.Ok w' := ⟨h.1, h.2.1, h.2.2.1, h.2.2.2.1, Kind.row_below h.2.2.2.2 hb (Nat.le_refl _)⟩
def KLn : Kind LnA := { n := 19, pos := by decide, cs := LnA.cs, d := lnA0, ok := fun w x => x.Ok w, len := fun h => LnA.len h, one := LnA.one, below := fun h hb => LnA.below h hb }
def MnA.v (m : MnA) : Value := .agg m.cs.toArray
def MnA.Ok (w : World) (m : MnA) : Prop := m.base.length = 32 ∧ AllBytes m.base ∧ KLn.row w m.A m.c m.ls
theorem MnA.below {w w' : World} {m : MnA} (h : m.Ok w) (hb : Below w.heap.size w w') : m.Ok w' := ⟨h.1, h.2.1, Kind.row_below h.2.2 hb (Nat.le_refl _)⟩
theorem MnA.len {w : World} {m : MnA} (h : m.Ok w) : m.cs.length = 33 := by simp [MnA.cs, h.1]
theorem sizeEn (w : World) : (sizeOf 52).run Tryd.prog w = .ok KEn.n w := by
 simp [sizeOf, go_sem]
 rfl
theorem sizeLn (w : World) : (sizeOf 49).run Tryd.prog w = .ok KLn.n w := by
 simp [sizeOf, go_sem]
 rfl
theorem nEn : KEn.n ≤ 1000 := by decide
theorem nLn : KLn.n ≤ 1000 := by decide
theorem infoEn : (Tryd.prog.info? 52).map (fun i => (i.zero, i.size, i.bytes)) = some (some (KEn.v enA0), 37, 88) := by kernel_rfl
theorem infoLn : (Tryd.prog.info? 49).map (fun i => (i.zero, i.size, i.bytes)) = some (some (KLn.v lnA0), 19, 56) := by kernel_rfl
theorem infoMn : (Tryd.prog.info? 26).map (fun i => (i.zero, i.size, i.bytes)) = some (some mnA0.v, 33, 56) := by kernel_rfl
theorem zeroEn (w : World) : (zeroValue 52).run Tryd.prog w = .ok (KEn.v enA0) w := by
 obtain ⟨i, hi, hz, hs, hb⟩ := info_parts infoEn
 simp [zeroValue, typeInfo, hi, hz, Sem.run_bind]
theorem zeroLn (w : World) : (zeroValue 49).run Tryd.prog w = .ok (KLn.v lnA0) w := by
 obtain ⟨i, hi, hz, hs, hb⟩ := info_parts infoLn
 simp [zeroValue, typeInfo, hi, hz, Sem.run_bind]
theorem zeroMn (w : World) : (zeroValue 26).run Tryd.prog w = .ok mnA0.v w := by
 obtain ⟨i, hi, hz, hs, hb⟩ := info_parts infoMn
 simp [zeroValue, typeInfo, hi, hz, Sem.run_bind]
theorem load_en {w : World} {b o : Nat} {x : EnA} (h : KEn.at w b o x) (hx : x.Ok w) : (loadVar 52 ⟨b, o, none⟩).run Tryd.prog w = .ok (KEn.v x) w :=
 Kind.at_load h (EnA.len hx) Tryd.underlying52 rfl (by obtain ⟨i, hi, _, hs, _⟩ := info_parts infoEn; rw [hi]; exact congrArg some hs)
theorem load_ln {w : World} {b o : Nat} {x : LnA} (h : KLn.at w b o x) (hx : x.Ok w) : (loadVar 49 ⟨b, o, none⟩).run Tryd.prog w = .ok (KLn.v x) w :=
 Kind.at_load h (LnA.len hx) Tryd.underlying49 rfl (by obtain ⟨i, hi, _, hs, _⟩ := info_parts infoLn; rw [hi]; exact congrArg some hs)
theorem en_row {w : World} {A : Option Addr} {c : Nat} {xs : List EnA} (h : KEn.row w A c xs) (h0 : 0 < xs.length) : ∃ b off, A = some ⟨b, off, none⟩ ∧ b < w.heap.size ∧ (∀ i, i < xs.length → KEn.at w b (off + i * 37) (xs.getD i enA0)) ∧ ∀ (i : Nat), i < xs.length → ∀ (I : Int), I = i → ∀ (X : World), (Instr.indexAt 47 (.slice (some ⟨b, off, none⟩) xs.length c) (.int .i64 I)).run Tryd.prog X = .ok (.pointer (some ⟨b, off + i * 37, none⟩)) X := by
 obtain ⟨b, off, hA, hb, hc⟩ := h.2.2.2.1 h0
 exact ⟨b, off, hA, hb, hc, fun i hi I e X => Kind.ix (K := KEn) (P := Tryd.prog) (ts := 47) Tryd.underlying47 (fun w => sizeEn w) hi I e X⟩
theorem ln_row {w : World} {A : Option Addr} {c : Nat} {xs : List LnA} (h : KLn.row w A c xs) (h0 : 0 < xs.length) : ∃ b off, A = some ⟨b, off, none⟩ ∧ b < w.heap.size ∧ (∀ i, i < xs.length → KLn.at w b (off + i * 19) (xs.getD i lnA0)) ∧ ∀ (i : Nat), i < xs.length → ∀ (I : Int), I = i → ∀ (X : World), (Instr.indexAt 24 (.slice (some ⟨b, off, none⟩) xs.length c) (.int .i64 I)).run Tryd.prog X = .ok (.pointer (some ⟨b, off + i * 19, none⟩)) X := by
 obtain ⟨b, off, hA, hb, hc⟩ := h.2.2.2.1 h0
 exact ⟨b, off, hA, hb, hc, fun i hi I e X => Kind.ix (K := KLn) (P := Tryd.prog) (ts := 24) Tryd.underlying24 (fun w => sizeLn w) hi I e X⟩
end
section
section
open Go.RowKit WM
structure Fld where
 no : Int
 c : Cel
def cel00 : Cel := ⟨0, 0, ⟨#[]⟩⟩
def fld0 : Fld := ⟨0, cel00⟩
def rcells (z : List Int) (n r : Int) (v : Value) : Array Value := (z.map (Value.int .u8) ++ [.int .i64 n, .int .i64 r, v]).toArray
def rv (z : List Int) (n r : Int) (v : Value) : Value := .agg (rcells z n r v)
def RcAt (w : World) (b : Nat) (z : List Int) (n r : Int) (v : Value) : Prop := z.length = 16 ∧ w.heap[b]? = some (.cells (rcells z n r v) 73)
theorem rcells_get {z : List Int} (hz : z.length = 16) (n r : Int) (v : Value) : (rcells z n r v)[16]? = some (.int .i64 n) ∧ (rcells z n r v)[17]? = some (.int .i64 r) ∧ (rcells z n r v)[18]? = some v := by
 refine ⟨?_, ?_, ?_⟩ <;> (unfold rcells; rw [List.getElem?_toArray, List.getElem?_append_right (by simp [hz])]; simp [hz])
theorem rcells_size {z : List Int} (hz : z.length = 16) (n r : Int) (v : Value) : (rcells z n r v).size = 19 := by simp [rcells, hz]
section
variable {w w' : World} {b B : Nat} {z : List Int} {n r : Int} {v : Value}
theorem RcAt.c16 (h : RcAt w b z n r v) : w.cell? ⟨b, 16, none⟩ = some (.int .i64 n) := by rw [cell_of_row _ _ _ _ _ _ h.2]; exact (rcells_get h.1 n r v).1
theorem RcAt.c17 (h : RcAt w b z n r v) : w.cell? ⟨b, 17, none⟩ = some (.int .i64 r) := by rw [cell_of_row _ _ _ _ _ _ h.2]; exact (rcells_get h.1 n r v).2.1
theorem RcAt.c18 (h : RcAt w b z n r v) : w.cell? ⟨b, 18, none⟩ = some v := by rw [cell_of_row _ _ _ _ _ _ h.2]; exact (rcells_get h.1 n r v).2.2
theorem RcAt.lt (h : RcAt w b z n r v) : b < w.heap.size := by
 rcases Nat.lt_or_ge b w.heap.size with h1 | h1
 ·exact h1
 ·have h2 := h.2; rw [Array.getElem?_eq_none h1] at h2; cases h2
theorem RcAt.below (h : RcAt w b z n r v) (hb : Below B w w') (hB : b < B) : RcAt w' b z n r v := ⟨h.1, by rw [hb.block b hB]; exact h.2⟩
theorem RcAt.new (w : World) (hz : z.length = 16) (n r : Int) (v : Value) : RcAt (w.alloc (.cells (rcells z n r v) 73)) w.heap.size z n r v := ⟨hz, heap_alloc_new w _⟩
theorem RcAt.old (h : RcAt w b z n r v) (o : Obj) : RcAt (w.alloc o) b z n r v := h.below ((Below.refl w.heap.size w).alloc (Nat.le_refl _) o) h.lt
end
theorem sizeRec : (Tryd.prog.info? 73).map (·.size) = some 19 := by kernel_rfl
theorem sizeID : (Tryd.prog.info? 44).map (·.size) = some 16 := by kernel_rfl
theorem load_id {w : World} {b : Nat} {z : List Int} {n r : Int} {v : Value} (h : RcAt w b z n r v) : (loadVar 44 ⟨b, 0, none⟩).run Tryd.prog w = .ok (.agg (bvals z)) w := by
 have hl : (loadCells ⟨b, 0, none⟩ 16).run Tryd.prog w = .ok (bvals z) w := by
  have h1 := run_loadCells_list (P := Tryd.prog) w ⟨b, 0, none⟩ (z.map (Value.int .u8)) (fun j u hu => by
   rw [Addr.add_lit, cell_of_row w b _ _ _ _ h.2, rcells, List.getElem?_toArray, List.getElem?_append_left (by simpa using (List.getElem?_eq_some_iff.1 hu).1)]
   simpa using hu)
  rw [List.length_map, h.1] at h1
  exact h1
 have hs := sizeID
 cases hq : Tryd.prog.info? 44 with
 | none => simp [hq] at hs
 | some i =>
  have hs : i.size = 16 := by simpa [hq] using hs
  have hagg : (isAgg 44).run Tryd.prog w = .ok true w := by
   unfold isAgg
   rw [Sem.run_bind, run_underlying Tryd.underlying44 w]
   simp
  simp [loadVar, Sem.run_bind, hagg, sizeOf, typeInfo, hq, hs, hl]
theorem eq_id {xs ys : List Int} (hx : AllBytes xs) (hy : AllBytes ys) (lx : xs.length = 16) (ly : ys.length = 16) (w : World) : (Op.equalIn 10000 44 (.agg (bvals xs)) (.agg (bvals ys))).run Tryd.prog w = .ok (xs == ys) w := by
 rw [bvals_u8 hx, bvals_u8 hy, ← u8_inj hx hy]
 exact run_equalIn_bytes w 9998 44 5 16 Tryd.underlying44 Tryd.underlying5 (fun w => sizeByte w) _ _ (by rw [List.length_map, lx]) (by rw [List.length_map, ly])
theorem wpList_load_by {P : Program} {ops : Array Oper} {rest : List Oper} {o : Oper} {a : Act} {w : World} {Q : Exit → Act → World → Prop} (hw : Region.wanted o (yielded ops a.tmps) = true) (ty : TypeId) (x : Operand) (ho : o.op = .load ty x)
  (ad : Addr) (hx : a.eval x = .pointer (some ad)) (v : Value) (hv : (loadVar ty ad).run P w = .ok v w)
  (h : wpList P ops Q rest (a.put o.dst v) w) : wpList P ops Q (o :: rest) a w :=
 BigFrame.wpList_want hw fun _ hK => by
  unfold Oper.wp execOp
  simp only [ho, hx, Instr.loadAt, Instr.sureAddr, Sem.run_bind, Sem.run_pure, Result.andThen_ok, hv]
  exact hK _ _ h
def FsAt (w : World) (A : Option Addr) (c : Nat) (fs : List Fld) : Prop :=
 fs.length ≤ c ∧ c ≤ maxLen ∧ (A = none → c = 0) ∧
 (0 < fs.length → ∃ b off, A = some ⟨b, off, none⟩ ∧ b < w.heap.size ∧ ∀ i, i < fs.length →
  w.cell? ⟨b, off + i * 4, none⟩ = some (.int .i64 (fs.getD i fld0).no) ∧ w.cell? ⟨b, off + i * 4 + 1, none⟩ = some (.int .i64 (fs.getD i fld0).c.n) ∧
  w.cell? ⟨b, off + i * 4 + 2, none⟩ = some (.int .i64 (fs.getD i fld0).c.r) ∧ w.cell? ⟨b, off + i * 4 + 3, none⟩ = some (.string (fs.getD i fld0).c.s))
theorem FsAt.below {w w' : World} {B : Nat} {A : Option Addr} {c : Nat} {fs : List Fld} (h : FsAt w A c fs) (hb : Below B w w') (hB : w.heap.size ≤ B) : FsAt w' A c fs := by
 obtain ⟨h1, h2, h3, h4⟩ := h
 refine ⟨h1, h2, h3, fun h0 => ?_⟩
 obtain ⟨b, off, rfl, hlt, hc⟩ := h4 h0
 have hbb := hb.mono hB
 refine ⟨b, off, rfl, Nat.lt_of_lt_of_le hlt hbb.size, fun i hi => ?_⟩
 obtain ⟨c0, c1, c2, c3⟩ := hc i hi
 exact ⟨(hbb.cell (p := ⟨b, _, none⟩) hlt).trans c0, (hbb.cell (p := ⟨b, _, none⟩) hlt).trans c1, (hbb.cell (p := ⟨b, _, none⟩) hlt).trans c2, (hbb.cell (p := ⟨b, _, none⟩) hlt).trans c3⟩
theorem sizeFld (w : World) : (sizeOf 103).run Tryd.prog w = .ok 4 w := by
 simp [sizeOf, go_sem]
 rfl
theorem elemFld : Tryd.prog.elem 71 = 103 := by kernel_rfl
theorem ix_fld (b off len cap i : Nat) (h : i < len) (I : Int) (e : I = i) (w : World) : (Instr.indexAt 71 (.slice (some ⟨b, off, none⟩) len cap) (.int .i64 I)).run Tryd.prog w = .ok (.pointer (some ⟨b, off + i * 4, none⟩)) w := by
 subst e
 rw [run_indexAt_slice w 71 _ len cap .i64 i (by rw [elemFld]; exact Tryd.underlying71), if_pos (by omega), elemFld, sizeFld]
 simp [Result.andThen, Addr.add_lit]
def FlAt (w : World) (b : Nat) (f : Fld) : Prop := w.heap[b]? = some (.cells #[.int .i64 f.no, .int .i64 f.c.n, .int .i64 f.c.r, .string f.c.s] 103)
theorem FlAt.c0 {w : World} {b : Nat} {f : Fld} (h : FlAt w b f) : w.cell? ⟨b, 0, none⟩ = some (.int .i64 f.no) := by rw [cell_of_row _ _ _ _ _ _ h]; rfl
theorem FlAt.c1 {w : World} {b : Nat} {f : Fld} (h : FlAt w b f) : w.cell? ⟨b, 1, none⟩ = some (.int .i64 f.c.n) := by rw [cell_of_row _ _ _ _ _ _ h]; rfl
theorem FlAt.c2 {w : World} {b : Nat} {f : Fld} (h : FlAt w b f) : w.cell? ⟨b, 2, none⟩ = some (.int .i64 f.c.r) := by rw [cell_of_row _ _ _ _ _ _ h]; rfl
theorem FlAt.c3 {w : World} {b : Nat} {f : Fld} (h : FlAt w b f) : w.cell? ⟨b, 3, none⟩ = some (.string f.c.s) := by rw [cell_of_row _ _ _ _ _ _ h]; rfl
theorem FlAt.lt {w : World} {b : Nat} {f : Fld} (h : FlAt w b f) : b < w.heap.size := by
 rcases Nat.lt_or_ge b w.heap.size with h1 | h1
 ·exact h1
 ·unfold FlAt at h; rw [Array.getElem?_eq_none h1] at h; cases h
theorem FlAt.below {w w' : World} {b B : Nat} {f : Fld} (h : FlAt w b f) (hb : Below B w w') (hB : b < B) : FlAt w' b f := by
 unfold FlAt; rw [hb.block b hB]; exact h
theorem FlAt.new (w : World) (f : Fld) : FlAt (w.alloc (.cells #[.int .i64 f.no, .int .i64 f.c.n, .int .i64 f.c.r, .string f.c.s] 103)) w.heap.size f := heap_alloc_new w _
noncomputable instance : DecidableEq Fld := fun _ _ => Classical.propDecidable _
theorem lives_any (n r : Int) (c : Cel) (w : World) : Calls Tryd.prog 59 #[st n r, c.v] w fun e w' => e = .returned (.bool (stLess n r c.n c.r)) ∧ Below w.heap.size w w' := by
 have HC := Lib.hid (stLess_any n r c.n c.r)
 have HB := Lib.hid (((Below.refl w.heap.size w).alloc (Nat.le_refl _) (.cells #[.int .i64 n, .int .i64 r] 46)).alloc (by simp) (.cells #[.int .i64 c.n, .int .i64 c.r, .string c.s] 101))
 unfold st Cel.v at *
 go_enter Tryd.func59, Tryd.ntmps59
 go_wp2_with fail
 refine (HC.out _).mono ?_
 rintro e w1 ⟨rfl, hb1⟩
 have bw := Lib.hid (HB.out.trans (hb1.mono HB.out.size))
 clear hb1
 go_wp2
 go_ret
 exact ⟨rfl, bw.out⟩
end
end
section
open Go.RowKit WM
set_option maxRecDepth 100000
def KId : Kind (List Int) := { n := 16, pos := by decide, cs := fun z => z.map (Value.int .u8), d := [], ok := fun _ z => z.length = 16 ∧ AllBytes z, len := fun h => (List.length_map _).trans h.1, one := byte_ones, below := fun h _ => h }
theorem infoIdM : (Tryd.prog.info? 44).map (·.size) = some 16 := by kernel_rfl
theorem load_idM {w : World} {b o : Nat} {z : List Int} (h : KId.at w b o z) (hz : z.length = 16) : (loadVar 44 ⟨b, o, none⟩).run Tryd.prog w = .ok (.agg (bvals z)) w :=
 Kind.at_load (K := KId) h (by show (z.map (Value.int .u8)).length = 16; rw [List.length_map, hz]) Tryd.underlying44 rfl infoIdM
theorem guardIdM : Tryd.prog.eqGuardType Tryd.prog.depth 44 = false := by kernel_rfl
theorem guardStM : Tryd.prog.eqGuardType Tryd.prog.depth 46 = false := by kernel_rfl
theorem eq_st {n r m s : Int} (w : World) : (Op.equalIn 10000 46 (.agg #[.int .i64 n, .int .i64 r]) (.agg #[.int .i64 m, .int .i64 s])).run Tryd.prog w = .ok (decide (n = m ∧ r = s)) w := by
 by_cases h : n = m ∧ r = s
 ·rw [decide_eq_true h]
  obtain ⟨rfl, rfl⟩ := h
  go_simp
 ·rw [decide_eq_false h]
  exact st_ne h w
section
variable {w : World} {b o : Nat}
theorem en_c0 {x : EnA} (h : KEn.at w b o x) : w.cell? ⟨b, o, none⟩ = some (.int .i64 x.e.no) := (h 0 (by decide)).trans rfl
theorem en_c1 {x : EnA} (h : KEn.at w b o x) : w.cell? ⟨b, o + 1, none⟩ = some (.int .i64 x.e.n) := (h 1 (by decide)).trans rfl
theorem en_c2 {x : EnA} (h : KEn.at w b o x) : w.cell? ⟨b, o + 2, none⟩ = some (.int .i64 x.e.r) := (h 2 (by decide)).trans rfl
theorem en_c3 {x : EnA} (h : KEn.at w b o x) : w.cell? ⟨b, o + 3, none⟩ = some (.int .i64 x.e.len) := (h 3 (by decide)).trans rfl
theorem en_dig {x : EnA} (h : KEn.at w b o x) (hx : x.e.ds.length = 32) : KDig.at w b (o + 4) x.e.ds := fun j hj => by
 have hj : j < 32 := hj
 have h1 := h (j + 4) (show j + 4 < 37 by omega)
 rw [show o + (j + 4) = o + 4 + j by omega] at h1
 rw [h1]
 show (Value.int .i64 x.e.no :: .int .i64 x.e.n :: .int .i64 x.e.r :: .int .i64 x.e.len :: (x.e.ds.map (Value.int .u8) ++ [.slice x.A x.e.bs.length x.c]))[j + 4]? = _
 simp only [List.getElem?_cons_succ]
 exact List.getElem?_append_left (by rw [List.length_map, hx]; exact hj)
theorem en_c36 {x : EnA} (h : KEn.at w b o x) (hx : x.e.ds.length = 32) : w.cell? ⟨b, o + 36, none⟩ = some (.slice x.A x.e.bs.length x.c) := by
 rw [h 36 (by decide)]
 show (Value.int .i64 x.e.no :: .int .i64 x.e.n :: .int .i64 x.e.r :: .int .i64 x.e.len :: (x.e.ds.map (Value.int .u8) ++ [.slice x.A x.e.bs.length x.c]))[36]? = _
 simp only [List.getElem?_cons_succ]
 rw [List.getElem?_append_right (by rw [List.length_map, hx]; decide), List.length_map, hx]
 rfl
theorem ln_id {x : LnA} (h : KLn.at w b o x) (hx : x.z.length = 16) : KId.at w b o x.z := fun j hj => by
 have hj : j < 16 := hj
 rw [h j (show j < 19 by omega)]
 exact List.getElem?_append_left (by rw [List.length_map, hx]; exact hj)
theorem ln_cR {x : LnA} (h : KLn.at w b o x) (hx : x.z.length = 16) (i : Nat) (hi : i < 3) : w.cell? ⟨b, o + (16 + i), none⟩ = [Value.int .i64 x.n, .int .i64 x.r, .slice x.A x.es.length x.c][i]? := by
 rw [h (16 + i) (show 16 + i < 19 by omega)]
 show (x.z.map (Value.int .u8) ++ [Value.int .i64 x.n, .int .i64 x.r, .slice x.A x.es.length x.c])[16 + i]? = _
 rw [List.getElem?_append_right (by rw [List.length_map, hx]; omega), List.length_map, hx, Nat.add_sub_cancel_left]
theorem ln_c16 {x : LnA} (h : KLn.at w b o x) (hx : x.z.length = 16) : w.cell? ⟨b, o + 16, none⟩ = some (.int .i64 x.n) := ln_cR h hx 0 (by decide)
theorem ln_c17 {x : LnA} (h : KLn.at w b o x) (hx : x.z.length = 16) : w.cell? ⟨b, o + 17, none⟩ = some (.int .i64 x.r) := ln_cR h hx 1 (by decide)
theorem ln_c18 {x : LnA} (h : KLn.at w b o x) (hx : x.z.length = 16) : w.cell? ⟨b, o + 18, none⟩ = some (.slice x.A x.es.length x.c) := ln_cR h hx 2 (by decide)
end
theorem wpList_eqlM {P : Program} {ops : Array Oper} {rest : List Oper} {o : Oper} {a : Act} {w : World} {Q : Exit → Act → World → Prop} (hw : Region.wanted o (yielded ops a.tmps) = true) (t : TypeId) (x y : Operand) (u : TypeId) (ho : o.op = .binOp .eql t x y u)
  {xs ys : Array Value} (hx : a.eval x = .agg xs) (hy : a.eval y = .agg ys) (hm : P.eqGuardType P.depth t = false) {b : Bool} (h1 : (Op.equalIn 10000 t (.agg xs) (.agg ys)).run P w = .ok b w)
  (h : wpList P ops Q rest (a.put o.dst (.bool b)) w) : wpList P ops Q (o :: rest) a w :=
 BigFrame.wpList_want hw fun _ hK => by
  unfold Oper.wp
  rw [exec_eql_at t x y u ho hx hy hm h1]
  exact hK _ _ h
def MnAt (w : World) (b : Nat) (m : MnA) : Prop := w.heap[b]? = some (.cells m.cs.toArray 26)
theorem MnAt.lt {w : World} {b : Nat} {m : MnA} (h : MnAt w b m) : b < w.heap.size := (Array.getElem?_eq_some_iff.1 h).1
theorem MnAt.below {w w' : World} {b B : Nat} {m : MnA} (h : MnAt w b m) (hb : Below B w w') (hB : b < B) : MnAt w' b m := (hb.block b hB).trans h
theorem MnAt.dig {w : World} {b : Nat} {m : MnA} (h : MnAt w b m) (hx : m.base.length = 32) : KDig.at w b 0 m.base := fun j hj => by
 have hj : j < 32 := hj
 rw [Nat.zero_add, cell_of_row _ _ _ _ _ _ h, List.getElem?_toArray]
 exact List.getElem?_append_left (by rw [List.length_map, hx]; exact hj)
theorem MnAt.c32 {w : World} {b : Nat} {m : MnA} (h : MnAt w b m) (hx : m.base.length = 32) : w.cell? ⟨b, 32, none⟩ = some (.slice m.A m.ls.length m.c) := by
 rw [cell_of_row _ _ _ _ _ _ h, List.getElem?_toArray]
 show (m.base.map (Value.int .u8) ++ [.slice m.A m.ls.length m.c])[32]? = _
 rw [List.getElem?_append_right (by rw [List.length_map, hx]; decide), List.length_map, hx]
 rfl
end
end Go.Proofs.YtkjimhlpbgeagaaDoor
