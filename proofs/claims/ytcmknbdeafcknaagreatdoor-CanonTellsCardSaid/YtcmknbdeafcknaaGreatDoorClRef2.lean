import Derived.Test.YtcmknbdeafcknaaGreatDoorGClR
import Derived.Test.YtcmknbdeafcknaaGreatDoorGClG
import Derived.Test.YtcmknbdeafcknaaGreatDoorGRd
import Derived.Test.YtcmknbdeafcknaaGreatDoorStRef
/-
  What the document's own Join, Put and Get of cells answer. Nothing that was there is written.
-/
namespace Go.Proofs.YtcmknbdeafcknaaGreatDoor
open Go.RowKit WM
set_option linter.unusedVariables false
set_option maxHeartbeats 2000000 in
theorem rcput_any (c : Cel) (w : World) : Calls Tryz.prog 61 #[c.v] w (CPutPost w c) := by
  obtain ⟨i0, hi, hz0, hz1, hz2⟩ := info_parts infoByte
  have S0 := Lib.hid (ClAt.new w c)
  have B0 := Lib.hid ((((Below.refl w.heap.size w).alloc (Nat.le_refl _) (.cells #[.int .i64 c.n, .int .i64 c.r, .string c.s] 57))))
  have HP := Lib.hid (rstPut_any c.n c.r)
  have HM := Lib.hid (rcmay_any c)
  cases hm : cmay c
  · have HN : Hid (∀ e w', e = .returned (.tuple #[.slice none 0 0, .bool false]) → Below w.heap.size w w' → CPutPost w c e w') := Lib.hid (fun e w' h1 h2 => by unfold CPutPost; rw [hm]; exact ⟨h1, h2⟩)
    rw [hm] at HM
    unfold Cel.v at HM ⊢
    clear hm
    go_enter Tryz.func61, Tryz.ntmps61
    go_wp2_with fail
    refine (HM.out _).mono ?_
    rintro e w1 ⟨rfl, hb⟩
    have B1 := Lib.hid (B0.out.trans (hb.mono B0.out.size))
    clear hb
    go_wp2
    go_ret2
    exact HN.out _ _ rfl B1.out
  · have HN : Hid (∀ e w', GivesT w (cenc c) e w' → CPutPost w c e w') := Lib.hid (fun e w' h1 => by unfold CPutPost; rw [hm]; exact h1)
    rw [hm] at HM
    obtain ⟨hs, hn1, hsz⟩ := cmay_iff.1 hm
    have HT := Lib.hid (fun w => rtext_gives c.s w (by omega))
    have hlen := cenc_len c hsz
    unfold cenc at hlen HN
    rw [List.length_append] at hlen
    unfold StPutPost at HP
    rw [hs] at HP
    simp only [if_true] at HP
    generalize enc (c.n * 8 + c.r) = E at *
    generalize txt c.s = F at *
    unfold st at HP
    unfold Cel.v at HM ⊢
    clear hs hm hn1 hsz
    go_enter Tryz.func61, Tryz.ntmps61
    go_wp2_with fail
    refine (HM.out _).mono ?_
    rintro e w0 ⟨rfl, hb⟩
    have B0' := Lib.hid (B0.out.trans (hb.mono B0.out.size))
    have S0' := Lib.hid (S0.out.below hb S0.out.lt)
    have a0 := S0'.out.c0
    have a1 := S0'.out.c1
    clear hb
    go_wp2_with fail
    refine (HP.out _).mono ?_
    rintro e w1 ⟨A, n, k, rfl, hn, hnk, hkm, hown, hb⟩
    have B1 := Lib.hid (B0'.out.trans (hb.mono B0'.out.size))
    have O1 := Lib.hid (own_wide hown B0'.out.size)
    have S1 := Lib.hid (S0'.out.below hb S0'.out.lt)
    have HL1 := Lib.hid hn
    clear hb hn hnk hkm hown a0 a1
    have a2 := S1.out.c2
    go_wp2_with fail
    refine (HT.out _).mono ?_
    rintro e w3 ⟨A3, n3, k3, rfl, hn3, hnk3, hkm3, hown3, hb⟩
    have B3 := Lib.hid (B1.out.trans (hb.mono B1.out.size))
    have O3 := Lib.hid (own_below O1.out hb)
    have hnil := Lib.hid (own_nil hown3)
    have hby := Lib.hid (Byt.own hown3)
    have HL3 := Lib.hid hn3
    have hlen3 : n + n3 ≤ 140737488355328 := by have := HL1.out; omega
    clear hb a2 hn3 hnk3 hkm3 hown3 hlen
    go_wp2_with (at_builtin; refine wpList_append_byt _ rfl _ _ 46 rfl w.heap.size 5 i0 Tryz.underlying46 hi hz0 hz1 hz2 _ n E rfl O3.out w3.heap.size A3 n3 k3 F rfl hby.out HL3.out hnil.out hlen3 B3.out.size ?_; intro v4 w4 ho4 hg4; have G4 := Lib.hid (HN.out _ _ (givesT_own ho4 (B3.out.grown hg4 B3.out.size (fun g hg => own_base O3.out hg)))); clear ho4 hg4)
    go_ret2
    exact G4.out
set_option maxHeartbeats 2000000 in
theorem rcget_any {B : Nat} (A : Option Addr) (len cap : Nat) (zs : List Int) (w : World) (h : Byt w B A zs) (hB : B ≤ w.heap.size) (hl : zs.length = len) (hb : AllBytes zs) (hlc : len ≤ cap) (hm : cap ≤ maxLen) :
    Calls Tryz.prog 102 #[.slice A len cap] w fun e w' => e = .returned (cgetV (cget zs)) ∧ Below w.heap.size w w' := by
  have HG := Lib.hid (rstGet_any A len cap zs (w.alloc (.cells #[.int .i64 0, .int .i64 0, .string ⟨#[]⟩] 57)) ((h.wide hB).below ((Below.refl _ _).alloc (Nat.le_refl _) _)) (by simp) hl hb hlc hm)
  have HK := Lib.hid (fun n r k => stGet_some (n := n) (r := r) (k := k) hb)
  have S2 := Lib.hid (ClAt.new w cel0)
  have B0 := Lib.hid ((((Below.refl w.heap.size w).alloc (Nat.le_refl _) (.cells #[.int .i64 0, .int .i64 0, .string ⟨#[]⟩] 57))))
  have hgv : cget zs = cget zs := rfl
  conv at hgv => rhs; unfold cget
  dsimp only [cel0] at S2
  cases hd : stGet zs with
  | none =>
    rw [hd] at HG hgv
    have HV := Lib.hid hgv
    unfold stGetV st at HG
    clear hd hgv h hB hl hb hlc hm HK
    go_enter Tryz.func102, Tryz.ntmps102
    go_wp2_with fail
    refine HG.out.mono ?_
    rintro e w1 ⟨rfl, hb⟩
    have s2 := S2.out.below hb S2.out.lt
    have s2' := s2.old (.cells #[.int .i64 0, .int .i64 0] 30)
    have a0 := s2'.c0
    have a1 := s2'.c1
    have a2 := s2'.c2
    have f0 := s2'.fz 0
    have f1 := s2'.fz 1
    have f2 := s2'.fz 2
    have b1 := B0.out.trans (hb.mono B0.out.size)
    have S9 := Lib.hid (s2'.put cel0)
    have B9 := Lib.hid (below_put3 (b1.alloc b1.size (.cells #[.int .i64 0, .int .i64 0] 30)) (Nat.le_refl w.heap.size) (.int .i64 0) (.int .i64 0) (.string ⟨#[]⟩))
    dsimp only [cel0] at S9
    clear hb s2 s2' b1
    go_wp2
    refine bodyPost_ret (v := cgetV none) ?_ rfl ⟨by rw [HV.out], ?_⟩
    · exact res_cl3 Tryz.results102 rfl S9.out
    · exact B9.out
  | some p =>
    obtain ⟨n, r, k⟩ := p
    rw [hd] at HG hgv
    obtain ⟨m1, m2, m3⟩ := HK.out n r k hd
    simp only at hgv
    unfold stGetV st at HG
    have hkl : k ≤ len := by omega
    have hsl := sl_l A len cap k hkl (k : Int) rfl
    have hR := h.drop (k := k) (cap := cap) (by omega)
    have HR := Lib.hid (fun (X : World) (hX : Below w.heap.size w X) => rread_any (if cap = k then A else A.map (·.add k)) (len - k) (cap - k) (zs.drop k) 200 X ((hR.wide hB).below hX) (by rw [List.length_drop, hl]) (all_drop hb k) (by omega) (by omega) hX.size (by omega) (by omega))
    have hRS := fun t j => rd_some (zs := zs.drop k) (most := 200) (t := t) (k := j) (all_drop hb k)
    have hdl : (zs.drop k).length = len - k := by rw [List.length_drop, hl]
    simp only [maxLen] at hm
    generalize (if cap = k then A else A.map (·.add k)) = A2 at hsl HR
    clear hd h hB hl hb HK m3 hR
    cases hr : rd (zs.drop k) 200 with
    | none =>
      rw [hr] at HR hgv
      have HV := Lib.hid hgv
      unfold readV at HR
      have HM := Lib.hid (rcmay_any ⟨n, r, ⟨#[]⟩⟩)
      dsimp only [Cel.v] at HM
      clear hgv hr hRS hdl
      go_enter Tryz.func102, Tryz.ntmps102
      go_wp2_with fail
      refine HG.out.mono ?_
      rintro e w1 ⟨rfl, hb⟩
      have s2 := Lib.hid (S2.out.below hb S2.out.lt)
      have b1 := Lib.hid (B0.out.trans (hb.mono B0.out.size))
      have b2 := Lib.hid (b1.out.alloc b1.out.size (.cells #[.int .i64 n, .int .i64 r] 30))
      have t3 := Lib.hid (StAt.new w1 n r)
      have s3 := Lib.hid (s2.out.old (.cells #[.int .i64 n, .int .i64 r] 30))
      clear hb
      go_wp2_with fail
      refine (HR.out _ b2.out).mono ?_
      rintro e w2 ⟨rfl, hb⟩
      have t4 := t3.out.below hb t3.out.lt
      have a0 := t4.c0
      have a1 := t4.c1
      have b3 := Lib.hid ((b2.out.trans (hb.mono b2.out.size)).alloc (Nat.le_trans b2.out.size hb.size) (.cells #[.int .i64 n, .int .i64 r, .string ⟨#[]⟩] 57))
      have s4 := Lib.hid ((s3.out.below hb s3.out.lt).old (.cells #[.int .i64 n, .int .i64 r, .string ⟨#[]⟩] 57))
      have N4 := Lib.hid (ClAt.new w2 ⟨n, r, ⟨#[]⟩⟩)
      clear hb t4
      go_wp2_with fail
      refine (HM.out _).mono ?_
      rintro e w3 ⟨rfl, hb⟩
      have s5 := s4.out.below hb s4.out.lt
      have n5 := N4.out.below hb N4.out.lt
      have b4 := b3.out.trans (hb.mono b3.out.size)
      clear a0 a1
      have a0 := s5.c0
      have a1 := s5.c1
      have a2 := s5.c2
      have e0 := n5.c0
      have e1 := n5.c1
      have e2 := n5.c2
      have f0 := s5.fz 0
      have f1 := s5.fz 1
      have f2 := s5.fz 2
      have S9 := Lib.hid (s5.put cel0)
      have B9 := Lib.hid (below_put3 b4 (Nat.le_refl w.heap.size) (.int .i64 0) (.int .i64 0) (.string ⟨#[]⟩))
      dsimp only [cel0] at S9
      clear hb s5 b4 n5
      go_wp2
      refine bodyPost_ret (v := cgetV none) ?_ rfl ⟨by rw [HV.out], ?_⟩
      · exact res_cl3 Tryz.results102 rfl S9.out
      · exact B9.out
    | some q =>
      obtain ⟨t, j⟩ := q
      rw [hr] at HR hgv
      obtain ⟨q1, q2, q3, q4, q5⟩ := hRS t j hr
      rw [hdl] at q1
      simp only at hgv
      unfold readV at HR
      have hw : IntKind.i64.wrap ((k : Int) + (j : Int)) = (k : Int) + (j : Int) := IntWalk.i64_in _ (by omega)
      dsimp only at HR
      generalize strOfNums t = s at *
      have HM := Lib.hid (rcmay_any ⟨n, r, s⟩)
      clear hr hRS hdl q1 q2 q3 q4 q5
      cases hc : cmay ⟨n, r, s⟩
      · rw [hc] at HM hgv
        have HV := Lib.hid (show cget zs = none by rw [hgv]; rfl)
        dsimp only [Cel.v] at HM
        clear hgv hc
        go_enter Tryz.func102, Tryz.ntmps102
        go_wp2_with fail
        refine HG.out.mono ?_
        rintro e w1 ⟨rfl, hb⟩
        have s2 := Lib.hid (S2.out.below hb S2.out.lt)
        have b1 := Lib.hid (B0.out.trans (hb.mono B0.out.size))
        have b2 := Lib.hid (b1.out.alloc b1.out.size (.cells #[.int .i64 n, .int .i64 r] 30))
        have t3 := Lib.hid (StAt.new w1 n r)
        have s3 := Lib.hid (s2.out.old (.cells #[.int .i64 n, .int .i64 r] 30))
        clear hb
        go_wp2_with fail
        refine (HR.out _ b2.out).mono ?_
        rintro e w2 ⟨rfl, hb⟩
        have t4 := t3.out.below hb t3.out.lt
        have a0 := t4.c0
        have a1 := t4.c1
        have b3 := Lib.hid ((b2.out.trans (hb.mono b2.out.size)).alloc (Nat.le_trans b2.out.size hb.size) (.cells #[.int .i64 n, .int .i64 r, .string s] 57))
        have s4 := Lib.hid ((s3.out.below hb s3.out.lt).old (.cells #[.int .i64 n, .int .i64 r, .string s] 57))
        have N4 := Lib.hid (ClAt.new w2 ⟨n, r, s⟩)
        clear hb t4
        go_wp2_with fail
        refine (HM.out _).mono ?_
        rintro e w3 ⟨rfl, hb⟩
        have s5 := s4.out.below hb s4.out.lt
        have n5 := N4.out.below hb N4.out.lt
        have b4 := b3.out.trans (hb.mono b3.out.size)
        clear a0 a1
        have a0 := s5.c0
        have a1 := s5.c1
        have a2 := s5.c2
        have e0 := n5.c0
        have e1 := n5.c1
        have e2 := n5.c2
        have f0 := s5.fz 0
        have f1 := s5.fz 1
        have f2 := s5.fz 2
        have S9 := Lib.hid (s5.put cel0)
        have B9 := Lib.hid (below_put3 b4 (Nat.le_refl w.heap.size) (.int .i64 0) (.int .i64 0) (.string ⟨#[]⟩))
        dsimp only [cel0] at S9
        clear hb s5 b4 n5
        go_wp2
        refine bodyPost_ret (v := cgetV none) ?_ rfl ⟨by rw [HV.out], ?_⟩
        · exact res_cl3 Tryz.results102 rfl S9.out
        · exact B9.out
      · rw [hc] at HM hgv
        have HV := Lib.hid (show cget zs = some (⟨n, r, s⟩, k + j) by rw [hgv]; rfl)
        dsimp only [Cel.v] at HM
        clear hgv hc
        go_enter Tryz.func102, Tryz.ntmps102
        go_wp2_with fail
        refine HG.out.mono ?_
        rintro e w1 ⟨rfl, hb⟩
        have s2 := Lib.hid (S2.out.below hb S2.out.lt)
        have b1 := Lib.hid (B0.out.trans (hb.mono B0.out.size))
        have b2 := Lib.hid (b1.out.alloc b1.out.size (.cells #[.int .i64 n, .int .i64 r] 30))
        have t3 := Lib.hid (StAt.new w1 n r)
        have s3 := Lib.hid (s2.out.old (.cells #[.int .i64 n, .int .i64 r] 30))
        clear hb
        go_wp2_with fail
        refine (HR.out _ b2.out).mono ?_
        rintro e w2 ⟨rfl, hb⟩
        have t4 := t3.out.below hb t3.out.lt
        have a0 := t4.c0
        have a1 := t4.c1
        have b3 := Lib.hid ((b2.out.trans (hb.mono b2.out.size)).alloc (Nat.le_trans b2.out.size hb.size) (.cells #[.int .i64 n, .int .i64 r, .string s] 57))
        have s4 := Lib.hid ((s3.out.below hb s3.out.lt).old (.cells #[.int .i64 n, .int .i64 r, .string s] 57))
        have N4 := Lib.hid (ClAt.new w2 ⟨n, r, s⟩)
        clear hb t4
        go_wp2_with fail
        refine (HM.out _).mono ?_
        rintro e w3 ⟨rfl, hb⟩
        have s5 := s4.out.below hb s4.out.lt
        have n5 := N4.out.below hb N4.out.lt
        have b4 := b3.out.trans (hb.mono b3.out.size)
        clear a0 a1
        have a0 := s5.c0
        have a1 := s5.c1
        have a2 := s5.c2
        have e0 := n5.c0
        have e1 := n5.c1
        have e2 := n5.c2
        have f0 := s5.fz 0
        have f1 := s5.fz 1
        have f2 := s5.fz 2
        have S9 := Lib.hid (s5.put ⟨n, r, s⟩)
        have B9 := Lib.hid (below_put3 b4 (Nat.le_refl w.heap.size) (.int .i64 n) (.int .i64 r) (.string s))
        dsimp only [cel0] at S9
        clear hb s5 b4 n5
        go_wp2
        refine bodyPost_ret (v := cgetV (some (⟨n, r, s⟩, k + j))) ?_ rfl ⟨by rw [HV.out], ?_⟩
        · exact res_cl3 Tryz.results102 rfl S9.out
        · exact B9.out
end Go.Proofs.YtcmknbdeafcknaaGreatDoor

