/-
  Cells' bytes: what is put is got, whatever stands behind; what is got is put as the same bytes; a beginning is none.
-/
import Derived.Test.YtonbhcbkelmhgaaDoorClGet
namespace Go.Proofs.YtonbhcbkelmhgaaDoor
open Go.RowKit WM
set_option linter.unusedVariables false
theorem cget_put (c : Cel) (t : List Int) (h : cmay c = true) : cget (cenc c ++ t) = some (c, (cenc c).length) := by
  obtain ⟨h1, h2, h3⟩ := cmay_iff.1 h
  unfold cget cenc
  rw [List.append_assoc, stGet_put _ h1]
  dsimp only
  rw [List.drop_left, rd_txt _ _ _ (by omega), if_pos (by omega)]
  dsimp only
  rw [str_nums]
  have hc : cmay ⟨c.n, c.r, c.s⟩ = true := h
  rw [hc, List.length_append]
  rfl
theorem cget_some {zs : List Int} {c : Cel} {k : Nat} (hb : AllBytes zs) (h : cget zs = some (c, k)) : cmay c = true ∧ k ≤ zs.length ∧ cenc c = zs.take k := by
  unfold cget at h
  split at h
  · cases h
  · rename_i n r j hs
    obtain ⟨m1, m2, m3⟩ := stGet_some hb hs
    split at h
    · cases h
    · rename_i t i hr
      obtain ⟨q1, q2, q3, q4, q5⟩ := rd_some (all_drop hb j) hr
      rw [List.length_drop] at q1
      split at h
      · rename_i hm
        simp only [Option.some.injEq, Prod.mk.injEq] at h
        obtain ⟨rfl, rfl⟩ := h
        refine ⟨hm, by omega, ?_⟩
        unfold cenc
        dsimp only
        rw [m3, q3, List.take_add]
      · cases h
theorem cget_cut (c : Cel) (k : Nat) (h : cmay c = true) (hk : k < (cenc c).length) : cget ((cenc c).take k) = none := by
  cases hg : cget ((cenc c).take k) with
  | none => rfl
  | some p =>
    obtain ⟨d, j⟩ := p
    obtain ⟨m1, m2, m3⟩ := cget_some (all_take (cenc_bytes c) k) hg
    rw [List.length_take] at m2
    rw [List.take_take] at m3
    have e : cenc c = cenc d ++ (cenc c).drop (min j k) := by rw [m3, List.take_append_drop]
    have g1 := cget_put c [] h
    rw [List.append_nil] at g1
    have g2 := cget_put d ((cenc c).drop (min j k)) m1
    rw [← e, g1] at g2
    simp only [Option.some.injEq, Prod.mk.injEq] at g2
    have := g2.2
    rw [m3, List.length_take] at this
    omega
end Go.Proofs.YtonbhcbkelmhgaaDoor
