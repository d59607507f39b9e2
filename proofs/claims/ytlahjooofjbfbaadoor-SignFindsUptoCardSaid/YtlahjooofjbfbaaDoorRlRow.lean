import Derived.Test.YtlahjooofjbfbaaDoorRlRef
import Derived.Test.YtlahjooofjbfbaaDoorGRow
import Derived.RangeFuncBox
/-
  Rows of words of 32 bits; a part of a text.
-/
namespace Go.Proofs.YtlahjooofjbfbaaDoor
open Go.RowKit WM
set_option linter.unusedVariables false
set_option maxRecDepth 20000
def K32 : Kind Int := { n := 1, pos := Nat.one_pos, cs := fun x => [.int .u32 x], d := 0, ok := fun _ _ => True, len := fun _ => rfl, one := fun x u hu => by rw [List.mem_singleton.1 hu]; rfl, below := fun _ _ => trivial }
theorem info32 : (Tryd.prog.info? 26).map (fun i => (i.zero, i.size, i.bytes)) = some (some (.int .u32 0), 1, 4) := by kernel_rfl
theorem row32_cell {w : World} {A : Option Addr} {c : Nat} {xs : List Int} (h : K32.row w A c xs) {i : Nat} (hi : i < xs.length) : ∃ b off, A = some ⟨b, off, none⟩ ∧ b < w.heap.size ∧ w.cell? ⟨b, off + i, none⟩ = some (.int .u32 (xs.getD i 0)) := by
  obtain ⟨b, off, hA, hb, hc⟩ := h.2.2.2.1 (by omega)
  have := hc i hi 0 Nat.one_pos
  refine ⟨b, off, hA, hb, ?_⟩
  rw [show off + i * K32.n + 0 = off + i from by show off + i * 1 + 0 = off + i; omega] at this
  exact this
theorem elem32 : Tryd.prog.elem 52 = 26 := by kernel_rfl
theorem size32W (w : World) : (sizeOf 26).run Tryd.prog w = .ok 1 w := by
  simp [sizeOf, go_sem]
  rfl
theorem ix_32 (b off len cap i : Nat) (h : i < len) (I : Int) (e : I = i) (w : World) : (Instr.indexAt 52 (.slice (some ⟨b, off, none⟩) len cap) (.int .i64 I)).run Tryd.prog w = .ok (.pointer (some ⟨b, off + i, none⟩)) w := by
  subst e
  rw [run_indexAt_slice w 52 _ len cap .i64 i (by rw [elem32]; exact Tryd.underlying52), if_pos (by omega), elem32, size32W]
  simp [Result.andThen, Addr.add_lit]
/-! ### a part of a text -/
theorem nums_extract (s : ByteArray) (i j : Nat) : nums (s.extract i j) = ((nums s).drop i).take (j - i) := by
  unfold nums
  rw [ByteArray.data_extract, Array.toList_extract]
  simp [List.extract, List.map_drop, List.map_take]
theorem sub_str (s : ByteArray) (i j : Nat) (hij : i ≤ j) (hj : j ≤ s.size) (I J : Int) (eI : I = i) (eJ : J = j) (w : World) : (Instr.slice 9 (.string s) (some (.int .i64 I)) (some (.int .i64 J)) none).run Tryd.prog w = .ok (.string (s.extract i j)) w := by
  subst eI
  subst eJ
  have h := run_slice_string (P := Tryd.prog) w 9 s .i64 .i64 (i : Int) (j : Int) Tryd.underlying9 (by omega) (by omega) (by omega)
  simpa using h
theorem extract_size (s : ByteArray) (i j : Nat) (hj : j ≤ s.size) : (s.extract i j).size = j - i := by rw [ByteArray.size_extract]; omega
theorem part_nums (s : ByteArray) (k m : Nat) : nums (s.extract k (k + m)) = ((nums s).drop k).take m := by rw [nums_extract, Nat.add_sub_cancel_left]
end Go.Proofs.YtlahjooofjbfbaaDoor

