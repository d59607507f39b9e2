import Derived.Test.YtcmknbdeafcknaaGreatDoorGCl
/-
  What rec.Find answers. Nothing that was there is written.
-/
namespace Go.Proofs.YtcmknbdeafcknaaGreatDoor
open Go.RowKit WM
set_option linter.unusedVariables false
/-- The first field of a number. -/
def rfind (fs : List Fld) (no : Int) : Option Cel := (fs.find? fun f => decide (f.no = no)).map (·.c)
theorem rfind_nil (no : Int) : rfind [] no = none := rfl
theorem rfind_cons (f : Fld) (fs : List Fld) (no : Int) : rfind (f :: fs) no = if f.no = no then some f.c else rfind fs no := by
  by_cases h : f.no = no <;> simp [rfind, h]
theorem rfind_drop {fs : List Fld} {no : Int} {k : Nat} (hk : k < fs.length) : rfind (fs.drop k) no = if (fs.getD k fld0).no = no then some (fs.getD k fld0).c else rfind (fs.drop (k + 1)) no := by
  rw [List.drop_eq_getElem_cons hk, rfind_cons]
  simp [List.getD, List.getElem?_eq_getElem hk]
def FindPost (w : World) (o : Option Cel) (e : Ending) (w' : World) : Prop := e = .returned (.tuple #[(o.getD cel00).v, .bool o.isSome]) ∧ Below w.heap.size w w'
set_option maxHeartbeats 1000000 in
theorem find_any (z : List Int) (n r : Int) (A : Option Addr) (len c : Nat) (fs : List Fld) (no : Int) (w : World) (hz : z.length = 16) (hl : fs.length = len) (h : FsAt w A c fs) :
    Calls Tryz.prog 39 #[rv z n r (.slice A len c), .int .i64 no] w (FindPost w (rfind fs no)) := by
  obtain ⟨hc1, hc2, hc3, hcell⟩ := h
  simp only [maxLen] at hc2
  have HL := Lib.hid hl
  have HC := Lib.hid hcell
  have S0 := (RcAt.new w hz n r (.slice A len c)).old (.cells #[.int .i64 0, .int .i64 0, .string ⟨#[]⟩] 57)
  have c18 := S0.c18
  have S1 := ClAt.new (w.alloc (.cells (rcells z n r (.slice A len c)) 33)) cel00
  rw [World.size_alloc] at S1
  have HB := ((Below.refl w.heap.size w).alloc (Nat.le_refl _) (.cells (rcells z n r (.slice A len c)) 33)).alloc (by simp) (.cells #[.int .i64 0, .int .i64 0, .string ⟨#[]⟩] 57)
  have H1 := Lib.hid (And.intro S1 HB)
  have hlen : len ≤ c := by omega
  clear hcell S0 S1 HB hc1 hl
  have hp : FindPost w (rfind fs no) = FindPost w (rfind (fs.drop 0) no) := rfl
  unfold rv
  go_enter Tryz.func39, Tryz.ntmps39
  go_wp2
  go_loopw [11] (fun i wr => ∃ k : Nat, k ≤ len ∧ i = .int .i64 k ∧ ClAt wr (w.heap.size + 1) cel00 ∧ Below w.heap.size w wr ∧ rfind fs no = rfind (fs.drop k) no) (fun i _ => len - (intOf i).toNat)
  case atStart => exact ⟨0, Nat.zero_le _, rfl, H1.out.1, H1.out.2, rfl⟩
  case round =>
    obtain ⟨k, hk, rfl, hs, hb, hf⟩ := hrel
    by_cases hlt : k < len
    · obtain ⟨b, off, rfl, hbB, hcc⟩ := HC.out (by rw [HL.out]; omega)
      obtain ⟨c0, c1, c2, c3⟩ := hcc k (by rw [HL.out]; exact hlt)
      have c0 := (hb.cell (p := ⟨b, off + k * 4, none⟩) hbB).trans c0
      have c1 := (hb.cell (p := ⟨b, off + k * 4 + 1, none⟩) hbB).trans c1
      have c2 := (hb.cell (p := ⟨b, off + k * 4 + 2, none⟩) hbB).trans c2
      have c3 := (hb.cell (p := ⟨b, off + k * 4 + 3, none⟩) hbB).trans c3
      have IX := ix_fld b off len c k hlt k rfl
      rw [rfind_drop (by rw [HL.out]; exact hlt)] at hf
      generalize fs.getD k fld0 = f at c0 c1 c2 c3 hf
      obtain ⟨m, x⟩ := f
      dsimp only at c0 c1 c2 c3 hf
      generalize off + k * 4 = o at c0 c1 c2 c3 IX
      have hO := hs.old (.cells #[.int .i64 m, .int .i64 x.n, .int .i64 x.r, .string x.s] 59)
      have hbO := hb.alloc hb.size (.cells #[.int .i64 m, .int .i64 x.n, .int .i64 x.r, .string x.s] 59)
      clear hcc
      by_cases he : m = no
      · subst he
        have d0 := hO.c0
        have d1 := hO.c1
        have d2 := hO.c2
        have e0 := hO.fz 0
        have e1 := hO.fz 1
        have e2 := hO.fz 2
        have HP := Lib.hid (hO.put x)
        have HQ := Lib.hid (below_put3 hbO (show w.heap.size ≤ w.heap.size + 1 by omega) (.int .i64 x.n) (.int .i64 x.r) (.string x.s))
        rw [if_pos rfl] at hf
        have HF := Lib.hid hf
        clear hs hb hO hbO hf
        go_wp2
        refine bodyPost_ret (v := .tuple #[x.v, .bool true]) ?_ rfl ⟨?_, HQ.out⟩
        · exact res_cl2 Tryz.results39 rfl HP.out
        · rw [HF.out]; rfl
      · rw [if_neg he] at hf
        have HF := Lib.hid hf
        have HO := Lib.hid hO
        have HBO := Lib.hid hbO
        clear hs hb hO hbO hf
        go_wp2
        go_roundw
        case rel => exact ⟨k + 1, by omega, by go_num, HO.out, HBO.out, HF.out⟩
        case measure => simp [intOf]; omega
    · obtain rfl : k = len := by omega
      have e0 := hs.fz 0
      have e1 := hs.fz 1
      have e2 := hs.fz 2
      have d0 := hs.c0
      have d1 := hs.c1
      have d2 := hs.c2
      have HP := Lib.hid (hs.put cel00)
      have HQ := Lib.hid (below_put3 hb (show w.heap.size ≤ w.heap.size + 1 by omega) (.int .i64 0) (.int .i64 0) (.string ⟨#[]⟩))
      rw [List.drop_eq_nil_of_le (by rw [HL.out]; exact Nat.le_refl _), rfind_nil] at hf
      have HF := Lib.hid hf
      clear hs hb hf
      go_wp2
      refine bodyPost_ret (v := .tuple #[cel00.v, .bool false]) ?_ rfl ⟨?_, HQ.out⟩
      · exact res_cl2 Tryz.results39 rfl HP.out
      · rw [HF.out]; rfl
end Go.Proofs.YtcmknbdeafcknaaGreatDoor

