/-
  What cell.Get answers. Nothing that was there is written.
-/
import Derived.Test.YtonbhcbkelmhgaaDoorClPut
import Derived.Test.YtonbhcbkelmhgaaDoorWRead
namespace Go.Proofs.YtonbhcbkelmhgaaDoor
open Go.RowKit WM
set_option linter.unusedVariables false
def cget (zs : List Int) : Option (Cel × Nat) :=
  match stGet zs with
  | none => none
  | some (n, r, k) =>
    match rd (zs.drop k) 200 with
    | none => none
    | some (t, j) => if cmay ⟨n, r, strOfNums t⟩ then some (⟨n, r, strOfNums t⟩, k + j) else none
def cel0 : Cel := ⟨0, 0, ⟨#[]⟩⟩
def cgetV : Option (Cel × Nat) → Value
  | none => .tuple #[cel0.v, .int .i64 0, .bool false]
  | some (c, k) => .tuple #[c.v, .int .i64 k, .bool true]
set_option maxHeartbeats 2000000 in
theorem cget_any {B : Nat} (A : Option Addr) (len cap : Nat) (zs : List Int) (w : World) (h : Byt w B A zs) (hB : B ≤ w.heap.size) (hl : zs.length = len) (hb : AllBytes zs) (hlc : len ≤ cap) (hm : cap ≤ maxLen) :
    Calls Tryd.prog 17 #[.slice A len cap] w fun e w' => e = .returned (cgetV (cget zs)) ∧ Below w.heap.size w w' := by
  have HG := Lib.hid (stGet_any A len cap zs (w.alloc (.cells #[.int .i64 0, .int .i64 0, .string ⟨#[]⟩] 25)) ((h.wide hB).below ((Below.refl _ _).alloc (Nat.le_refl _) _)) (by simp) hl hb (by omega))
  have HK := Lib.hid (fun n r k => stGet_some (n := n) (r := r) (k := k) hb)
  have S2 := Lib.hid (ClAt.new w cel0)
  have B0 := Lib.hid ((((Below.refl w.heap.size w).alloc (Nat.le_refl _) (.cells #[.int .i64 0, .int .i64 0, .string ⟨#[]⟩] 25))))
  have hgv : cget zs = cget zs := rfl
  conv at hgv => rhs; unfold cget
  dsimp only [cel0] at S2
  cases hd : stGet zs with
  | none =>
    rw [hd] at HG hgv
    have HV := Lib.hid hgv
    unfold stGetV st at HG
    clear hd hgv h hB hl hb hlc hm HK
    go_enter Tryd.func17, Tryd.ntmps17
    go_wp2_with fail
    refine HG.out.mono ?_
    rintro e w1 ⟨rfl, hb⟩
    have s2 := S2.out.below hb S2.out.lt
    have s2' := s2.old (.cells #[.int .i64 0, .int .i64 0] 23)
    have a0 := s2'.c0
    have a1 := s2'.c1
    have a2 := s2'.c2
    have f0 := s2'.fz 0
    have f1 := s2'.fz 1
    have f2 := s2'.fz 2
    have b1 := B0.out.trans (hb.mono B0.out.size)
    have S9 := Lib.hid (s2'.put cel0)
    have B9 := Lib.hid (below_put3 (b1.alloc b1.size (.cells #[.int .i64 0, .int .i64 0] 23)) (Nat.le_refl w.heap.size) (.int .i64 0) (.int .i64 0) (.string ⟨#[]⟩))
    dsimp only [cel0] at S9
    clear hb s2 s2' b1
    go_wp2
    refine bodyPost_ret (v := cgetV none) ?_ rfl ⟨by rw [HV.out], ?_⟩
    · exact res_cl3 Tryd.results17 rfl S9.out
    · exact B9.out
  | some p =>
    obtain ⟨n, r, k⟩ := p
    rw [hd] at HG hgv
    obtain ⟨m1, m2, m3⟩ := HK.out n r k hd
    simp only at hgv
    unfold stGetV st at HG
    have hkl : k ≤ len := by omega
    have hsl := sl_l A len cap k hkl (k : Int) rfl
    have hR := h.drop (k := k) (cap := cap) (by omega)
    have HR := Lib.hid (fun (X : World) (hX : Below w.heap.size w X) => read_any (if cap = k then A else A.map (·.add k)) (len - k) (cap - k) (zs.drop k) 200 X ((hR.wide hB).below hX) (by rw [List.length_drop, hl]) (all_drop hb k) (by omega) (by omega))
    have hRS := fun t j => rd_some (zs := zs.drop k) (most := 200) (t := t) (k := j) (all_drop hb k)
    have hdl : (zs.drop k).length = len - k := by rw [List.length_drop, hl]
    simp only [maxLen] at hm
    generalize (if cap = k then A else A.map (·.add k)) = A2 at hsl HR
    clear hd h hB hl hb HK m3 hR
    cases hr : rd (zs.drop k) 200 with
    | none =>
      rw [hr] at HR hgv
      have HV := Lib.hid hgv
      unfold readV at HR
      clear hgv hr hRS hdl
      go_enter Tryd.func17, Tryd.ntmps17
      go_wp2_with fail
      refine HG.out.mono ?_
      rintro e w1 ⟨rfl, hb⟩
      have s2 := Lib.hid (S2.out.below hb S2.out.lt)
      have b1 := Lib.hid (B0.out.trans (hb.mono B0.out.size))
      have b2 := Lib.hid (b1.out.alloc b1.out.size (.cells #[.int .i64 n, .int .i64 r] 23))
      have s3 := Lib.hid (s2.out.old (.cells #[.int .i64 n, .int .i64 r] 23))
      have s4 := Lib.hid (s3.out.old (.cells #[.int .i64 n, .int .i64 r, .string ⟨#[]⟩] 25))
      have b3 := Lib.hid (b2.out.alloc b2.out.size (.cells #[.int .i64 n, .int .i64 r, .string ⟨#[]⟩] 25))
      clear hb
      go_wp2_with fail
      refine (HR.out _ b2.out).mono ?_
      rintro e w2 ⟨rfl, rfl⟩
      have a0 := s4.out.c0
      have a1 := s4.out.c1
      have a2 := s4.out.c2
      have f0 := s4.out.fz 0
      have f1 := s4.out.fz 1
      have f2 := s4.out.fz 2
      have S9 := Lib.hid (s4.out.put cel0)
      have B9 := Lib.hid (below_put3 b3.out (Nat.le_refl w.heap.size) (.int .i64 0) (.int .i64 0) (.string ⟨#[]⟩))
      dsimp only [cel0] at S9
      go_wp2
      refine bodyPost_ret (v := cgetV none) ?_ rfl ⟨by rw [HV.out], ?_⟩
      · exact res_cl3 Tryd.results17 rfl S9.out
      · exact B9.out
    | some q =>
      obtain ⟨t, j⟩ := q
      rw [hr] at HR hgv
      obtain ⟨q1, q2, q3, q4, q5⟩ := hRS t j hr
      rw [hdl] at q1
      simp only at hgv
      unfold readV at HR
      have hw : IntKind.i64.wrap ((k : Int) + (j : Int)) = (k : Int) + (j : Int) := IntWalk.i64_in _ (by omega)
      dsimp only at HR
      generalize strOfNums t = s at *
      have HM := Lib.hid (cmay_any ⟨n, r, s⟩)
      clear hr hRS hdl q1 q2 q3 q4 q5
      cases hc : cmay ⟨n, r, s⟩
      · rw [hc] at HM hgv
        have HV := Lib.hid (show cget zs = none by rw [hgv]; rfl)
        dsimp only [Cel.v] at HM
        clear hgv hc
        go_enter Tryd.func17, Tryd.ntmps17
        go_wp2_with fail
        refine HG.out.mono ?_
        rintro e w1 ⟨rfl, hb⟩
        have s2 := Lib.hid (S2.out.below hb S2.out.lt)
        have b1 := Lib.hid (B0.out.trans (hb.mono B0.out.size))
        have b2 := Lib.hid (b1.out.alloc b1.out.size (.cells #[.int .i64 n, .int .i64 r] 23))
        have s3 := Lib.hid (s2.out.old (.cells #[.int .i64 n, .int .i64 r] 23))
        have s4 := Lib.hid (s3.out.old (.cells #[.int .i64 n, .int .i64 r, .string s] 25))
        have b3 := Lib.hid (b2.out.alloc b2.out.size (.cells #[.int .i64 n, .int .i64 r, .string s] 25))
        clear hb
        go_wp2_with fail
        refine (HR.out _ b2.out).mono ?_
        rintro e w2 ⟨rfl, rfl⟩
        go_wp2_with fail
        refine (HM.out _).mono ?_
        rintro e w3 ⟨rfl, hb⟩
        have s5 := s4.out.below hb s4.out.lt
        have b4 := b3.out.trans (hb.mono b3.out.size)
        have a0 := s5.c0
        have a1 := s5.c1
        have a2 := s5.c2
        have f0 := s5.fz 0
        have f1 := s5.fz 1
        have f2 := s5.fz 2
        have S9 := Lib.hid (s5.put cel0)
        have B9 := Lib.hid (below_put3 b4 (Nat.le_refl w.heap.size) (.int .i64 0) (.int .i64 0) (.string ⟨#[]⟩))
        dsimp only [cel0] at S9
        clear hb s5 b4
        go_wp2
        refine bodyPost_ret (v := cgetV none) ?_ rfl ⟨by rw [HV.out], ?_⟩
        · exact res_cl3 Tryd.results17 rfl S9.out
        · exact B9.out
      · rw [hc] at HM hgv
        have HV := Lib.hid (show cget zs = some (⟨n, r, s⟩, k + j) by rw [hgv]; rfl)
        dsimp only [Cel.v] at HM
        clear hgv hc
        go_enter Tryd.func17, Tryd.ntmps17
        go_wp2_with fail
        refine HG.out.mono ?_
        rintro e w1 ⟨rfl, hb⟩
        have s2 := Lib.hid (S2.out.below hb S2.out.lt)
        have b1 := Lib.hid (B0.out.trans (hb.mono B0.out.size))
        have b2 := Lib.hid (b1.out.alloc b1.out.size (.cells #[.int .i64 n, .int .i64 r] 23))
        have s3 := Lib.hid (s2.out.old (.cells #[.int .i64 n, .int .i64 r] 23))
        have s4 := Lib.hid (s3.out.old (.cells #[.int .i64 n, .int .i64 r, .string s] 25))
        have b3 := Lib.hid (b2.out.alloc b2.out.size (.cells #[.int .i64 n, .int .i64 r, .string s] 25))
        have n4 := ClAt.new (w1.alloc (.cells #[.int .i64 n, .int .i64 r] 23)) ⟨n, r, s⟩
        rw [World.size_alloc] at n4
        have N4 := Lib.hid n4
        clear hb n4
        go_wp2_with fail
        refine (HR.out _ b2.out).mono ?_
        rintro e w2 ⟨rfl, rfl⟩
        go_wp2_with fail
        refine (HM.out _).mono ?_
        rintro e w3 ⟨rfl, hb⟩
        have s5 := s4.out.below hb s4.out.lt
        have n5 := N4.out.below hb N4.out.lt
        have b4 := b3.out.trans (hb.mono b3.out.size)
        have a0 := s5.c0
        have a1 := s5.c1
        have a2 := s5.c2
        have e0 := n5.c0
        have e1 := n5.c1
        have e2 := n5.c2
        have f0 := s5.fz 0
        have f1 := s5.fz 1
        have f2 := s5.fz 2
        have S9 := Lib.hid (s5.put ⟨n, r, s⟩)
        have B9 := Lib.hid (below_put3 b4 (Nat.le_refl w.heap.size) (.int .i64 n) (.int .i64 r) (.string s))
        clear hb s5 b4 n5
        go_wp2
        refine bodyPost_ret (v := cgetV (some (⟨n, r, s⟩, k + j))) ?_ rfl ⟨by rw [HV.out], ?_⟩
        · exact res_cl3 Tryd.results17 rfl S9.out
        · exact B9.out
end Go.Proofs.YtonbhcbkelmhgaaDoor
