/-
  What the document's own Text answers.
-/
import Derived.Test.YtonbhcbkelmhgaaDoorRPut
namespace Go.Proofs.YtonbhcbkelmhgaaDoor
open Go.RowKit WM
set_option linter.unusedVariables false

set_option maxHeartbeats 400000 in
theorem rtext_gives (s : ByteArray) (w : World) (hs : s.size ≤ 140737488355000) : Calls Tryd.prog 42 #[.string s] w (Gives w (txt s)) := by
  obtain ⟨i0, hi, hz0, hz1, hz2⟩ := info_parts infoByte
  have hel := enc_len s.size
  go_enter Tryd.func42, Tryd.ntmps42
  go_wp2_with (first
    | (go_at_call 61; refine (rput_any _ _ (by omega) (by omega)).mono ?_; rintro e w1 ⟨A, n, c, rfl, hn, hnc, hcm, hown, hbel⟩; have HN := Lib.hid hn; clear hn)
    | (at_builtin; refine Lib.wpList_append_own_string _ rfl _ _ 26 9 rfl w.heap.size 5 i0 Tryd.underlying26 Tryd.underlying9 hi hz0 hz1 hz2 (.slice A n c) n _ rfl hown s rfl ?h1 ?h2 hbel.size ?_; rotate_right; intro v2 w2 ho2 hg2 _))
  case h1 => have := HN.out; unfold maxLen; omega
  case h2 => have := HN.out; omega
  go_ret
  refine gives_own (n := n + s.size) ?_ (hbel.grown hg2 hbel.size (fun g hg => own_base hown hg))
  rw [txt, List.map_append, nums_cells]
  exact ho2
end Go.Proofs.YtonbhcbkelmhgaaDoor
