/-
  The law SectionTells: for every kind and all bytes it answers true, and nothing that was there is written.
-/
import Derived.Test.YtneiaioddjabeaaSecAwake
import Derived.Test.YtneiaioddjabeaaROpen
namespace Go.Proofs.Ytneiaioddjabeaa
open Go.RowKit WM
set_option linter.unusedVariables false
/-- Two results: bytes R, and whether there are some. -/
def PP (w : World) (R : List Int) (tt : Bool) (e : Ending) (w' : World) : Prop :=
  ∃ A n c, e = .returned (.tuple #[.slice A n c, .bool tt]) ∧ R.length = n ∧ Byt w' w'.heap.size A R ∧ Below w.heap.size w w'
theorem pp_yes {w w' : World} {R : List Int} {e : Ending} (h : GivesT w R e w') : PP w R true e w' := by
  obtain ⟨A, n, c, rfl, hn, _, _, ho, hb⟩ := h
  exact ⟨A, n, c, rfl, hn, Byt.own ho, hb⟩
theorem pp_no {w w' : World} {e : Ending} (h : PackNo w e w') : PP w [] false e w' := by
  obtain ⟨rfl, rfl⟩ := h
  exact ⟨none, 0, 0, rfl, rfl, Byt.nil, Below.refl _ _⟩
theorem pack_form {B : Nat} (k : Int) (A : Option Addr) (len cap : Nat) (zs : List Int) (m0 : -9223372036854775808 ≤ k) (m1 : k ≤ 9223372036854775807) (hlen : len ≤ 100000) (hl : zs.length = len) (hb : AllBytes zs) (hnil : A = none → cap = 0) :
    ∃ (R : List Int) (tt : Bool), ∀ w : World, Byt w B A zs → B ≤ w.heap.size → Calls Try.prog 11 #[.int .i64 k, .slice A len cap] w (PP w R tt) ∧ Calls Try.prog 12 #[.int .i64 k, .slice A len cap] w (PP w R tt) := by
  by_cases hk : 0 ≤ k ∧ k ≤ 9
  · exact ⟨packL k zs, true, fun w h hB => ⟨(pack_yes k A len cap zs w hk.1 hk.2 hlen h hl hb hB hnil).mono fun _ _ => pp_yes, (rpack_yes k A len cap zs w hk.1 hk.2 hlen h hl hb hB hnil).mono fun _ _ => pp_yes⟩⟩
  · have hk' : k < 0 ∨ 9 < k := by omega
    exact ⟨[], false, fun w h hB => ⟨(pack_kind k A len cap w hk' m0 m1).mono fun _ _ => pp_no, (rpack_kind k A len cap w hk' m0 m1).mono fun _ _ => pp_no⟩⟩
/-- Four results: a kind, bytes X, how many, why not. -/
def OP (w : World) (k : Int) (X : List Int) (n f : Int) (e : Ending) (w' : World) : Prop :=
  ∃ A l c, e = .returned (.tuple #[.int .i64 k, .slice A l c, .int .i64 n, .int .i64 f]) ∧ X.length = l ∧ Byt w' w'.heap.size A X ∧ Below w.heap.size w w'
theorem open_form (o : Opn) : ∃ (k : Int) (X : List Int) (n f : Int), ∀ w e w', OpenPost w o e w' → OP w k X n f e w' := by
  cases o with
  | form => exact ⟨0, [], 0, 2, fun w e w' ⟨h1, h2⟩ => ⟨none, 0, 0, h1, rfl, Byt.nil, h2⟩⟩
  | check => exact ⟨0, [], 0, 3, fun w e w' ⟨h1, h2⟩ => ⟨none, 0, 0, h1, rfl, Byt.nil, h2⟩⟩
  | ok k b n => exact ⟨k, b, n, 0, fun w e w' ⟨A, l, c, h1, h2, _, _, h3, h4⟩ => ⟨A, l, c, h1, h2, Byt.own h3, h4⟩⟩
set_option maxHeartbeats 2000000 in
theorem walk_sectionTells (k : Int) (a1 : Option Addr) (len1 cap1 : Nat) (z1 : List Int) (w : World) (w0 : (Lit.int .i64 k).wf = true) (w1 : IsRow .u8 w a1 len1 cap1 z1) :
    Calls Try.prog 3 #[.int .i64 k, .slice a1 len1 cap1] w fun e w' => e = .returned (.bool true) ∧ Below w.heap.size w w' := by
  obtain ⟨m0, m1⟩ := bounds_i64 w0
  obtain ⟨hby, hlen, hbs, hlc, hcm⟩ := w1.byt
  have hnil := row_nil w1
  clear w0 w1
  generalize z1.take len1 = zs at hby hlen hbs
  by_cases h400 : 400 < len1
  · simp only [maxLen] at hcm
    clear hby hlen hbs hnil
    go_enter Try.func3, Try.ntmps3
    go_wp2_with (go_at_call 10; refine (awake_any _).mono ?_; rintro e w1 ⟨rfl, hb1⟩)
    go_ret
    exact ⟨rfl, hb1⟩
  · obtain ⟨R, tt, hp⟩ := pack_form (B := w.heap.size) k a1 len1 cap1 zs m0 m1 (by omega) hlen hbs hnil
    obtain ⟨ok, X, on, oe, ho⟩ := open_form (opn zs)
    have o1 := fun (w' : World) (hw : Below w.heap.size w w') => (open_any a1 len1 cap1 zs w' (hby.below hw) hw.size hlen hbs hlc hcm).mono (ho w')
    have o2 := fun (w' : World) (hw : Below w.heap.size w w') => (ropen_any a1 len1 cap1 zs w' (hby.below hw) hw.size hlen hbs hlc hcm).mono (ho w')
    have s1 := fun (w' : World) (hw : Below w.heap.size w w') => sum_any a1 len1 cap1 zs w' (hby.below hw) hlen hbs (Nat.le_trans hlc hcm) hw.size
    have s2 := fun (w' : World) (hw : Below w.heap.size w w') => rsum_any a1 len1 cap1 zs w' (hby.below hw) hlen hbs (Nat.le_trans hlc hcm)
    have HP := Lib.hid (fun (w' : World) (hw : Below w.heap.size w w') => hp w' (hby.below hw) hw.size)
    have O1 := Lib.hid o1
    have O2 := Lib.hid o2
    have S1 := Lib.hid s1
    have S2 := Lib.hid s2
    simp only [maxLen] at hcm
    clear hp ho o1 o2 s1 s2 hby hlen hbs hnil
    go_enter Try.func3, Try.ntmps3
    go_wp2_with fail
    refine (awake_any _).mono ?_
    rintro e w1 ⟨rfl, b1⟩
    go_wp2_with fail
    refine (HP.out _ b1).1.mono ?_
    rintro e w2 ⟨A2, n2, c2, rfl, hn2, hy2, hb2⟩
    have b2 := b1.trans (hb2.mono b1.size)
    go_wp2_with fail
    refine (HP.out _ b2).2.mono ?_
    rintro e w3 ⟨A3, n3, c3, rfl, hn3, hy3, hb3⟩
    have b3 := b2.trans (hb3.mono b2.size)
    go_wp2_with fail
    refine (O1.out _ b3).mono ?_
    rintro e w4 ⟨A4, n4, c4, rfl, hn4, hy4, hb4⟩
    have b4 := b3.trans (hb4.mono b3.size)
    go_wp2_with fail
    refine (O2.out _ b4).mono ?_
    rintro e w5 ⟨A5, n5, c5, rfl, hn5, hy5, hb5⟩
    have b5 := b4.trans (hb5.mono b4.size)
    go_wp2_with fail
    refine (S1.out _ b5).mono ?_
    rintro e w6 ⟨rfl, hb6⟩
    have b6 := b5.trans (hb6.mono b5.size)
    go_wp2_with fail
    refine (S2.out _ b6).mono ?_
    rintro e w7 ⟨rfl, rfl⟩
    have f5 := hb6
    have f4 := hb5.trans (f5.mono hb5.size)
    have f3 := hb4.trans (f4.mono hb4.size)
    have f2 := hb3.trans (f3.mono hb3.size)
    have x2 := (hy2.below f2).text (P := Try.prog) (cap := c2) hn2 22 5 9 Try.underlying22 Try.underlying5 Try.underlying9
    have x3 := (hy3.below f3).text (P := Try.prog) (cap := c3) hn3 22 5 9 Try.underlying22 Try.underlying5 Try.underlying9
    have x4 := (hy4.below f4).text (P := Try.prog) (cap := c4) hn4 22 5 9 Try.underlying22 Try.underlying5 Try.underlying9
    have x5 := (hy5.below f5).text (P := Try.prog) (cap := c5) hn5 22 5 9 Try.underlying22 Try.underlying5 Try.underlying9
    clear hn2 hn3 hn4 hn5 hy2 hy3 hy4 hy5 HP O1 O2 S1 S2 hb2 hb3 hb4 hb5 hb6 f2 f3 f4 f5 b1 b2 b3 b4 b5
    go_wp2
    go_ret
    exact ⟨rfl, b6⟩
end Go.Proofs.Ytneiaioddjabeaa
