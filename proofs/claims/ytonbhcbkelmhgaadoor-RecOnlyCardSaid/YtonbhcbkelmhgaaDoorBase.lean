/-
  Small facts over the seat: a byte, text of bytes, what a call gives (bytes of its own).
-/
import Derived.Test.YtonbhcbkelmhgaaDoorProg
import Derived.Test.YtonbhcbkelmhgaaDoorWords
import Derived.WalkMore
namespace Go.Proofs.YtonbhcbkelmhgaaDoor
open Go.RowKit WM
set_option linter.unusedVariables false

theorem infoByte : (Tryd.prog.info? 5).map (fun i => (i.zero, i.size, i.bytes)) = some (some (.int .u8 0), 1, 1) := by kernel_rfl

/-- string(v), as one letter that no walk looks into. -/
theorem cvt_ex : ∃ f : Value → World → Result Value, (∀ v w, (convert 26 9 v).run Tryd.prog w = f v w) ∧
    ∀ (w : World) (B : Nat) (A : Option Addr) (zs : List Int), Byt w B A zs → ∀ len cap : Nat, zs.length = len → f (.slice A len cap) w = .ok (.string (strOfNums zs)) w :=
  ⟨fun v w => (convert 26 9 v).run Tryd.prog w, fun _ _ => rfl, fun w B A zs h len cap hl => h.text hl 26 5 9 Tryd.underlying26 Tryd.underlying5 Tryd.underlying9⟩

theorem made4 : madeCells #[.int .u8 0] 4 = #[.int .u8 0, .int .u8 0, .int .u8 0, .int .u8 0] := by simp [madeCells, Array.range]; rfl
theorem make4 (w : World) : (Instr.makeSlice 26 (.int .i64 4) (.int .i64 4)).run Tryd.prog w = .ok (.slice (some ⟨w.heap.size, 0, none⟩) 4 4) (w.alloc (.cells #[.int .u8 0, .int .u8 0, .int .u8 0, .int .u8 0] 5)) :=
  (run_make_row' (P := Tryd.prog) 26 5 (.int .u8 0) 1 Tryd.underlying26 infoByte rfl .i64 .i64 4 (by decide) (by decide) w).trans (by rw [made4])

theorem one_cell {w : World} {o : Obj} {u : Value} {e : TypeId} (ho : o = .cells #[u] e) : ∀ j v, ([u] : List Value)[j]? = some v → (w.alloc o).cell? ((⟨w.heap.size, 0, none⟩ : Addr).add j) = some v := by
  subst ho
  intro j v hj
  match j, hj with
  | 0, hj =>
    simp at hj; subst hj
    have hh : (w.alloc (.cells #[u] e)).heap[w.heap.size]? = some (.cells #[u] e) := heap_alloc_new w _
    rw [Addr.add_lit, cell_of_row _ _ _ _ _ _ hh]
    rfl
theorem drop_at {zs : List Int} {k : Nat} (hk : k < zs.length) : zs.drop k = zs.getD k 0 :: zs.drop (k + 1) := by
  rw [List.drop_eq_getElem_cons hk]
  simp [List.getD, List.getElem?_eq_getElem hk]
theorem ret3 {a b c a' b' c' : Value} (h1 : a = a') (h2 : b = b') (h3 : c = c') : Ending.returned (.tuple #[a, b, c]) = .returned (.tuple #[a', b', c']) := by rw [h1, h2, h3]
/-! ### What a call gives: bytes of its own -/
def Gives (w : World) (zs : List Int) (e : Ending) (w' : World) : Prop :=
  ∃ A n c, e = .returned (.slice A n c) ∧ zs.length = n ∧ n ≤ c ∧ c ≤ maxLen ∧ w'.ownsRow w.heap.size 5 1 (.slice A n c) n (zs.map (Value.int .u8)) ∧ Below w.heap.size w w'
theorem gives_own {w w' : World} {v : Value} {n : Nat} {zs : List Int} (ho : w'.ownsRow w.heap.size 5 1 v n (zs.map (Value.int .u8))) (hb : Below w.heap.size w w') : Gives w zs (.returned v) w' := by
  have hl : zs.length = n := by simpa using ho.1
  rcases ho.2 with ⟨rfl, rfl⟩ | ⟨g, cap, cur, rfl, _, _, hnc, hcm, _⟩
  · exact ⟨none, 0, 0, rfl, hl, by omega, by decide, ho, hb⟩
  · exact ⟨_, n, cap, rfl, hl, hnc, hcm, ho, hb⟩
/-- Bytes of the call's own, and true. -/
def GivesT (w : World) (zs : List Int) (e : Ending) (w' : World) : Prop :=
  ∃ A n c, e = .returned (.tuple #[.slice A n c, .bool true]) ∧ zs.length = n ∧ n ≤ c ∧ c ≤ maxLen ∧ w'.ownsRow w.heap.size 5 1 (.slice A n c) n (zs.map (Value.int .u8)) ∧ Below w.heap.size w w'
theorem givesT_own {w w' : World} {v : Value} {n : Nat} {zs : List Int} (ho : w'.ownsRow w.heap.size 5 1 v n (zs.map (Value.int .u8))) (hb : Below w.heap.size w w') : GivesT w zs (.returned (.tuple #[v, .bool true])) w' := by
  have hl : zs.length = n := by simpa using ho.1
  rcases ho.2 with ⟨rfl, rfl⟩ | ⟨g, cap, cur, rfl, _, _, hnc, hcm, _⟩
  · exact ⟨none, 0, 0, rfl, hl, by omega, by decide, ho, hb⟩
  · exact ⟨_, n, cap, rfl, hl, hnc, hcm, ho, hb⟩
def nums (s : ByteArray) : List Int := s.data.toList.map fun b => (b.toNat : Int)
theorem nums_len (s : ByteArray) : (nums s).length = s.size := by rw [nums, List.length_map, Array.length_toList]; rfl
theorem nums_cells (s : ByteArray) : (nums s).map (Value.int .u8) = Lib.strCells s := by simp [nums, Lib.strCells]
theorem nums_bytes (s : ByteArray) : AllBytes (nums s) := by
  intro z hz
  simp only [nums, List.mem_map] at hz
  obtain ⟨b, _, rfl⟩ := hz
  have := b.toNat_lt
  omega
theorem str_nums (s : ByteArray) : strOfNums (nums s) = s := by
  unfold strOfNums nums
  rw [List.map_map]
  have : ((fun n : Int => UInt8.ofNat n.toNat) ∘ fun b : UInt8 => (b.toNat : Int)) = id := by funext b; simp
  rw [this, List.map_id]
def txt (s : ByteArray) : List Int := enc s.size ++ nums s
theorem txt_bytes (s : ByteArray) : AllBytes (txt s) := by
  intro z hz
  rcases List.mem_append.1 hz with h | h
  · exact enc_bytes _ z h
  · exact nums_bytes _ z h
theorem nums_str {t : List Int} (h : AllBytes t) : nums (strOfNums t) = t := by
  unfold nums
  rw [strOfNums_data, List.map_map]
  conv => rhs; rw [← List.map_id t]
  refine List.map_congr_left fun z hz => ?_
  have := h z hz
  simp [UInt8.toNat_ofNat']
  omega
theorem all_append {xs ys : List Int} (h1 : AllBytes xs) (h2 : AllBytes ys) : AllBytes (xs ++ ys) := fun z hz => by
  rcases List.mem_append.1 hz with h | h
  · exact h1 z h
  · exact h2 z h
theorem row_nil {k : IntKind} {w : World} {a : Option Addr} {len cap : Nat} {zs : List Int} (h : IsRow k w a len cap zs) (ha : a = none) : cap = 0 := by
  rcases h with ⟨_, _, h, _⟩ | ⟨x, h, _⟩
  · exact h
  · rw [h] at ha; cases ha
theorem all_get {zs : List Int} (hb : AllBytes zs) (j : Nat) : 0 ≤ zs.getD j 0 ∧ zs.getD j 0 ≤ 255 := by
  rcases Nat.lt_or_ge j zs.length with h1 | h1
  · have := hb _ (List.getElem_mem h1)
    simpa [List.getD, List.getElem?_eq_getElem h1] using this
  · simp [List.getD, List.getElem?_eq_none h1]
theorem all_take {zs : List Int} (hb : AllBytes zs) (j : Nat) : AllBytes (zs.take j) := fun z hz => hb z (List.mem_of_mem_take hz)
theorem all_drop {zs : List Int} (hb : AllBytes zs) (j : Nat) : AllBytes (zs.drop j) := fun z hz => hb z (List.mem_of_mem_drop hz)
theorem sizeByte (w : World) : (sizeOf 5).run Tryd.prog w = .ok 1 w := by
  simp [sizeOf, go_sem]
  rfl
theorem elemByte : Tryd.prog.elem 26 = 5 := by kernel_rfl
theorem sl_lh (b off len cap l h : Nat) (h1 : l ≤ h) (h2 : h ≤ cap) (h3 : l < cap) (L H : Int) (eL : L = l) (eH : H = h) (w : World) : (Instr.slice 26 (.slice (some ⟨b, off, none⟩) len cap) (some (.int .i64 L)) (some (.int .i64 H)) none).run Tryd.prog w = .ok (.slice (some ⟨b, off + l, none⟩) (h - l) (cap - l)) w := by
  subst eL eH
  rw [run_slice_lh w 26 _ len cap (by rw [elemByte]; exact Tryd.underlying26) .i64 .i64 l h (by omega) (by omega) (by omega), elemByte, sizeByte]
  simp [sliced, Result.andThen, Addr.add_lit]
  omega
theorem sl_h (A : Option Addr) (len cap h : Nat) (h2 : h ≤ cap) (H : Int) (eH : H = h) (w : World) : (Instr.slice 26 (.slice A len cap) none (some (.int .i64 H)) none).run Tryd.prog w = .ok (.slice A h cap) w := by
  subst eH
  rw [run_slice_h w 26 _ len cap (by rw [elemByte]; exact Tryd.underlying26) .i64 h (by omega) (by omega), elemByte, sizeByte]
  simp only [sliced, Result.andThen, Int.toNat_natCast, Nat.zero_mul, Nat.sub_zero]
  cases A with
  | none => simp
  | some a => obtain ⟨b, off, s⟩ := a; simp [Addr.add]
theorem sl_l (A : Option Addr) (len cap l : Nat) (h1 : l ≤ len) (L : Int) (eL : L = l) (w : World) : (Instr.slice 26 (.slice A len cap) (some (.int .i64 L)) none none).run Tryd.prog w = .ok (.slice (if cap = l then A else A.map (·.add l)) (len - l) (cap - l)) w := by
  subst eL
  rw [run_slice_l w 26 _ len cap (by rw [elemByte]; exact Tryd.underlying26) .i64 l (by omega) (by omega), elemByte, sizeByte]
  simp [sliced, Result.andThen]

theorem ix_at (b off len cap i : Nat) (h : i < len) (I : Int) (e : I = i) (w : World) : (Instr.indexAt 26 (.slice (some ⟨b, off, none⟩) len cap) (.int .i64 I)).run Tryd.prog w = .ok (.pointer (some ⟨b, off + i, none⟩)) w := by
  subst e
  rw [run_indexAt_slice w 26 _ len cap .i64 i (by rw [elemByte]; exact Tryd.underlying26), if_pos (by omega), elemByte, sizeByte]
  simp [Result.andThen, Addr.add_lit]

end Go.Proofs.YtonbhcbkelmhgaaDoor
