import Derived.Test.YtcmknbdeafcknaaGreatDoorCaRd
/-
  The reader of package canon: what no, id, stamp, cell, field answer, or that they panic.
-/
namespace Go.Proofs.YtcmknbdeafcknaaGreatDoor
open Go.RowKit WM
set_option linter.unusedVariables false
set_option maxRecDepth 20000
section
variable {a b c : World} {q : Nat}
theorem gq_refl (q : Nat) (a : World) : a.grownBy a (some q) := World.grownBy.refl _ _
theorem gq_below (h : a.grownBy b (some q)) (k : Below b.heap.size b c) : a.grownBy c (some q) := grown_trans h (grown_below k (Nat.le_refl _))
theorem gq_alloc (h : a.grownBy b (some q)) (o : Obj) : a.grownBy (b.alloc o) (some q) := grown_trans h (World.grownBy_alloc b o _)
theorem gq_set (h : a.grownBy b (some q)) {g : Nat} (j : Nat) (v : Value) (hg : a.heap.size ≤ g) : a.grownBy (b.setCell ⟨g, j, none⟩ v) (some q) := grown_new h (grownBy_setCell18 b g j v) (fun k e => by have := Option.some.inj e; omega)
theorem RdAt.set {zs : List Int} (h : RdAt a q zs) {g : Nat} (j : Nat) (v : Value) (hg : q < g) : RdAt (a.setCell ⟨g, j, none⟩ v) q zs := h.kept (grownBy_setCell18 a g j v) (fun k e => by have := Option.some.inj e; omega)
theorem RdAt.alloc {zs : List Int} (h : RdAt a q zs) (o : Obj) : RdAt (a.alloc o) q zs := h.kept (World.grownBy_alloc a o none) (fun k e => by cases e)
theorem StAt.kept {n r : Int} {g : Nat} (h : StAt a g n r) (hg : a.grownBy b (some q)) (hne : g ≠ q) : StAt b g n r := (hg.block g h.lt (fun e => hne (Option.some.inj e))).trans h
theorem ClAt.kept {x : Cel} {g : Nat} (h : ClAt a g x) (hg : a.grownBy b (some q)) (hne : g ≠ q) : ClAt b g x := (hg.block g h.lt (fun e => hne (Option.some.inj e))).trans h
theorem FlAt.kept {x : Fld} {g : Nat} (h : FlAt a g x) (hg : a.grownBy b (some q)) (hne : g ≠ q) : FlAt b g x := (hg.block g h.lt (fun e => hne (Option.some.inj e))).trans h
end
/-! ### a number -/
def NoPost (w : World) (q : Nat) (zs : List Int) (e : Ending) (w' : World) : Prop :=
  match zs with
  | z :: ys => e = .returned (.int .i64 z) ∧ RdAt w' q ys ∧ w.grownBy w' (some q)
  | [] => e = .panicked pan ∧ w.grownBy w' (some q)
set_option maxHeartbeats 1000000 in
theorem no_any (q : Nat) (zs : List Int) (w : World) (h : RdAt w q zs) :
    Calls Tryz.prog 124 #[.pointer (some ⟨q, 0, none⟩)] w (NoPost w q zs) := by
  have HB := Lib.hid (bytes_any q 1 zs w h (by omega))
  obtain ⟨_, _, _, _, _, _, _, _, hall⟩ := h
  unfold BytesPost at HB
  cases zs with
  | nil =>
    simp only [show ¬ 1 ≤ ([] : List Int).length by simp, if_false] at HB
    clear hall
    go_enter Tryz.func124, Tryz.ntmps124
    go_wp2_with fail
    refine HB.out.mono ?_
    rintro e w1 ⟨rfl, hg⟩
    go_wp2
    exact ⟨rfl, rfl, hg⟩
  | cons z ys =>
    simp only [show 1 ≤ (z :: ys).length by simp, if_true] at HB
    have hz := hall z (by simp)
    have hcv : IntKind.i64.wrap z = z := IntWalk.i64_in _ (by omega)
    clear hall
    go_enter Tryz.func124, Tryz.ntmps124
    go_wp2_with fail
    refine HB.out.mono ?_
    rintro e w1 ⟨A, c, rfl, hby, hkc, hcm, hA, hr, hg⟩
    obtain ⟨b, off, rfl, _, hc⟩ := hby (by simp)
    have c0 := hc 0 (by simp)
    have hix := ix_at b off 1 c 0 (by omega) 0 rfl
    have HR := Lib.hid hr
    have HG := Lib.hid hg
    simp only [Nat.add_zero, List.take_succ_cons, List.take_zero, List.getD_cons_zero] at c0 hix
    clear hby hc hr hg hA hkc hcm
    go_wp2
    go_ret
    exact ⟨rfl, HR.out, HG.out⟩
/-! ### a stamp -/
def pst (zs : List Int) : Option ((Int × Int) × List Int) := match stGet zs with | some (n, r, k) => some ((n, r), zs.drop k) | none => none
def RStPost (w : World) (q : Nat) (r : Option ((Int × Int) × List Int)) (e : Ending) (w' : World) : Prop :=
  match r with
  | some (s, ys) => e = .returned (st s.1 s.2) ∧ RdAt w' q ys ∧ w.grownBy w' (some q)
  | none => e = .panicked pan ∧ w.grownBy w' (some q)
set_option maxHeartbeats 1000000 in
theorem rstamp_any (q : Nat) (zs : List Int) (w : World) (h : RdAt w q zs) :
    Calls Tryz.prog 98 #[.pointer (some ⟨q, 0, none⟩)] w (RStPost w q (pst zs)) := by
  have R1 := Lib.hid (h.alloc (.cells #[.int .i64 0, .int .i64 0] 30))
  have HQ := Lib.hid h.lt
  have G1 := Lib.hid (gq_alloc (gq_refl q w) (.cells #[.int .i64 0, .int .i64 0] 30))
  have S2 := Lib.hid (StAt.new w 0 0)
  obtain ⟨A, len, cap, hq, hby, hl, hlc, hm, hall⟩ := R1.out
  have c0 : (w.alloc (.cells #[.int .i64 0, .int .i64 0] 30)).cell? ⟨q, 0, none⟩ = some (.slice A len cap) := by rw [cell_of_row _ _ _ _ _ _ hq]; rfl
  have HG := Lib.hid (stGet_any A len cap zs (w.alloc (.cells #[.int .i64 0, .int .i64 0] 30)) hby (by rw [World.size_alloc]; have := HQ.out; omega) hl hall (by omega))
  cases hd : stGet zs with
  | none =>
    have HV := Lib.hid (show pst zs = none by unfold pst; rw [hd])
    rw [hd] at HG
    unfold stGetV st at HG
    clear hq hby hl hall hd h hlc hm
    have HP := Lib.hid (pass_no q 0)
    go_enter Tryz.func98, Tryz.ntmps98
    go_wp2_with fail
    refine HG.out.mono ?_
    rintro e w1 ⟨rfl, hb⟩
    have G2 := Lib.hid (gq_alloc (gq_below G1.out hb) (.cells #[.int .i64 0, .int .i64 0] 30))
    clear hb c0
    go_wp2_with fail
    refine (HP.out _).mono ?_
    rintro e w2 ⟨rfl, rfl⟩
    go_wp2
    refine ⟨rfl, ?_⟩
    rw [HV.out]
    exact ⟨rfl, G2.out⟩
  | some p =>
    obtain ⟨n, r, k⟩ := p
    obtain ⟨m1, m2, m3⟩ := stGet_some hall hd
    have HV := Lib.hid (show pst zs = some ((n, r), zs.drop k) by unfold pst; rw [hd])
    have HM2 := Lib.hid m2
    rw [hd] at HG
    unfold stGetV st at HG
    clear hq hby hl hall hd h hlc hm m1 m2 m3
    go_enter Tryz.func98, Tryz.ntmps98
    go_wp2_with fail
    refine HG.out.mono ?_
    rintro e w1 ⟨rfl, hb⟩
    have R2 := Lib.hid ((R1.out.below hb (Nat.le_refl _)).alloc (.cells #[.int .i64 n, .int .i64 r] 30))
    have G2 := Lib.hid (gq_alloc (gq_below G1.out hb) (.cells #[.int .i64 n, .int .i64 r] 30))
    have S3 := Lib.hid ((S2.out.below hb S2.out.lt).old (.cells #[.int .i64 n, .int .i64 r] 30))
    have N3 := Lib.hid (StAt.new w1 n r)
    have hsz := hb.size
    rw [World.size_alloc] at hsz
    have HSZ := Lib.hid hsz
    have HP := Lib.hid (pass_yes q k zs _ R2.out HM2.out)
    clear hb c0 hsz
    go_wp2_with fail
    refine HP.out.mono ?_
    rintro e w2 ⟨rfl, hr, hg⟩
    have s4 := S3.out.kept hg (by have := HQ.out; omega)
    have n4 := N3.out.kept hg (by have := HQ.out; have := HSZ.out; omega)
    have a0 := n4.c0
    have a1 := n4.c1
    have e0 := s4.c0
    have e1 := s4.c1
    have f0 := s4.fz 0
    have f1 := s4.fz 1
    have S9 := Lib.hid (s4.put n r)
    have R9 := Lib.hid ((hr.set 0 (.int .i64 n) HQ.out).set 1 (.int .i64 r) HQ.out)
    have G9 := Lib.hid (gq_set (gq_set (grown_trans G2.out hg) 0 (.int .i64 n) (Nat.le_refl w.heap.size)) 1 (.int .i64 r) (Nat.le_refl w.heap.size))
    clear hr hg s4 n4
    go_wp2
    refine bodyPost_ret (v := st n r) ?_ rfl ?_
    · exact res_st Tryz.results98 rfl S9.out
    · rw [HV.out]
      exact ⟨rfl, R9.out, G9.out⟩
/-! ### a cell -/
def pcl (zs : List Int) : Option (Cel × List Int) := match cget zs with | some (c, k) => some (c, zs.drop k) | none => none
def RClPost (w : World) (q : Nat) (r : Option (Cel × List Int)) (e : Ending) (w' : World) : Prop :=
  match r with
  | some (c, ys) => e = .returned c.v ∧ RdAt w' q ys ∧ w.grownBy w' (some q)
  | none => e = .panicked pan ∧ w.grownBy w' (some q)
set_option maxHeartbeats 1000000 in
theorem rcell_any (q : Nat) (zs : List Int) (w : World) (h : RdAt w q zs) :
    Calls Tryz.prog 125 #[.pointer (some ⟨q, 0, none⟩)] w (RClPost w q (pcl zs)) := by
  have R1 := Lib.hid (h.alloc (.cells #[.int .i64 0, .int .i64 0, .string ⟨#[]⟩] 57))
  have HQ := Lib.hid h.lt
  have G1 := Lib.hid (gq_alloc (gq_refl q w) (.cells #[.int .i64 0, .int .i64 0, .string ⟨#[]⟩] 57))
  have S2 := Lib.hid (ClAt.new w cel0)
  dsimp only [cel0] at S2
  obtain ⟨A, len, cap, hq, hby, hl, hlc, hm, hall⟩ := R1.out
  have c0 : (w.alloc (.cells #[.int .i64 0, .int .i64 0, .string ⟨#[]⟩] 57)).cell? ⟨q, 0, none⟩ = some (.slice A len cap) := by rw [cell_of_row _ _ _ _ _ _ hq]; rfl
  have HG := Lib.hid (cget_any A len cap zs (w.alloc (.cells #[.int .i64 0, .int .i64 0, .string ⟨#[]⟩] 57)) hby (by rw [World.size_alloc]; have := HQ.out; omega) hl hall hlc hm)
  cases hd : cget zs with
  | none =>
    have HV := Lib.hid (show pcl zs = none by unfold pcl; rw [hd])
    rw [hd] at HG
    unfold cgetV cel0 Cel.v at HG
    dsimp only at HG
    clear hq hby hl hall hd h hlc hm
    have HP := Lib.hid (pass_no q 0)
    go_enter Tryz.func125, Tryz.ntmps125
    go_wp2_with fail
    refine HG.out.mono ?_
    rintro e w1 ⟨rfl, hb⟩
    have G2 := Lib.hid (gq_alloc (gq_below G1.out hb) (.cells #[.int .i64 0, .int .i64 0, .string ⟨#[]⟩] 57))
    clear hb c0
    go_wp2_with fail
    refine (HP.out _).mono ?_
    rintro e w2 ⟨rfl, rfl⟩
    go_wp2
    refine ⟨rfl, ?_⟩
    rw [HV.out]
    exact ⟨rfl, G2.out⟩
  | some p =>
    obtain ⟨x, k⟩ := p
    obtain ⟨m1, m2, m3⟩ := cget_some hall hd
    have HV := Lib.hid (show pcl zs = some (x, zs.drop k) by unfold pcl; rw [hd])
    have HM2 := Lib.hid m2
    rw [hd] at HG
    unfold cgetV Cel.v at HG
    dsimp only at HG
    obtain ⟨n, r, s⟩ := x
    dsimp only at HG
    clear hq hby hl hall hd h hlc hm m1 m2 m3
    go_enter Tryz.func125, Tryz.ntmps125
    go_wp2_with fail
    refine HG.out.mono ?_
    rintro e w1 ⟨rfl, hb⟩
    have R2 := Lib.hid ((R1.out.below hb (Nat.le_refl _)).alloc (.cells #[.int .i64 n, .int .i64 r, .string s] 57))
    have G2 := Lib.hid (gq_alloc (gq_below G1.out hb) (.cells #[.int .i64 n, .int .i64 r, .string s] 57))
    have S3 := Lib.hid ((S2.out.below hb S2.out.lt).old (.cells #[.int .i64 n, .int .i64 r, .string s] 57))
    have N3 := Lib.hid (ClAt.new w1 ⟨n, r, s⟩)
    dsimp only at N3
    have hsz := hb.size
    rw [World.size_alloc] at hsz
    have HSZ := Lib.hid hsz
    have HP := Lib.hid (pass_yes q k zs _ R2.out HM2.out)
    clear hb c0 hsz
    go_wp2_with fail
    refine HP.out.mono ?_
    rintro e w2 ⟨rfl, hr, hg⟩
    have s4 := S3.out.kept hg (by have := HQ.out; omega)
    have n4 := N3.out.kept hg (by have := HQ.out; have := HSZ.out; omega)
    have a0 := n4.c0
    have a1 := n4.c1
    have a2 := n4.c2
    have e0 := s4.c0
    have e1 := s4.c1
    have e2 := s4.c2
    have f0 := s4.fz 0
    have f1 := s4.fz 1
    have f2 := s4.fz 2
    have S9 := Lib.hid (s4.put ⟨n, r, s⟩)
    have R9 := Lib.hid (((hr.set 0 (.int .i64 n) HQ.out).set 1 (.int .i64 r) HQ.out).set 2 (.string s) HQ.out)
    have G9 := Lib.hid (gq_set (gq_set (gq_set (grown_trans G2.out hg) 0 (.int .i64 n) (Nat.le_refl w.heap.size)) 1 (.int .i64 r) (Nat.le_refl w.heap.size)) 2 (.string s) (Nat.le_refl w.heap.size))
    clear hr hg s4 n4
    go_wp2
    refine bodyPost_ret (v := Cel.v ⟨n, r, s⟩) ?_ rfl ?_
    · exact res_cl Tryz.results125 rfl S9.out
    · rw [HV.out]
      exact ⟨rfl, R9.out, G9.out⟩
/-! ### a field -/
def pfl (zs : List Int) : Option (Fld × List Int) :=
  match zs with
  | [] => none
  | z :: ys => match pcl ys with | some (c, r) => some (⟨z, c⟩, r) | none => none
def RFlPost (w : World) (q : Nat) (r : Option (Fld × List Int)) (e : Ending) (w' : World) : Prop :=
  match r with
  | some (f, ys) => e = .returned f.v ∧ RdAt w' q ys ∧ w.grownBy w' (some q)
  | none => e = .panicked pan ∧ w.grownBy w' (some q)
theorem FlAt.put {w : World} {b : Nat} {f : Fld} (h : FlAt w b f) (g : Fld) : FlAt ((((w.setCell ⟨b, 0, none⟩ (.int .i64 g.no)).setCell ⟨b, 1, none⟩ (.int .i64 g.c.n)).setCell ⟨b, 2, none⟩ (.int .i64 g.c.r)).setCell ⟨b, 3, none⟩ (.string g.c.s)) b g := by
  unfold FlAt
  rw [heap_setCell_same _ _ _ _ _ _ (heap_setCell_same _ _ _ _ _ _ (heap_setCell_same _ _ _ _ _ _ (heap_setCell_same _ _ _ _ _ _ h)))]
  rfl
theorem load_fl {w : World} {b : Nat} {f : Fld} (h : FlAt w b f) : (loadVar 59 ⟨b, 0, none⟩).run Tryz.prog w = .ok f.v w :=
  run_loadVar_row w b 59 59 _ (0, 0) _ h Tryz.underlying59 rfl (by kernel_rfl)
theorem res_fl {fn : Func} {p : Tmp} (h : fn.results = #[.cell p 59]) {tmps : Array Value} {w : World} {b : Nat} {f : Fld} (hp : tmps.getD p undef = .pointer (some ⟨b, 0, none⟩)) (hs : FlAt w b f) :
    (results fn tmps).run Tryz.prog w = .ok f.v w := by
  have hp' : tmps[p]?.getD undef = .pointer (some ⟨b, 0, none⟩) := by simpa using hp
  simp [results, h, hp', asAddr, load_fl hs]
set_option maxHeartbeats 1000000 in
theorem rfield_any (q : Nat) (zs : List Int) (w : World) (h : RdAt w q zs) :
    Calls Tryz.prog 100 #[.pointer (some ⟨q, 0, none⟩)] w (RFlPost w q (pfl zs)) := by
  have HQ := Lib.hid h.lt
  have G1 := Lib.hid (gq_alloc (gq_refl q w) (.cells #[.int .i64 0, .int .i64 0, .int .i64 0, .string ⟨#[]⟩] 59))
  have S2 := Lib.hid (FlAt.new w fld0)
  dsimp only [fld0, cel00] at S2
  have HN := Lib.hid (no_any q zs _ (h.alloc (.cells #[.int .i64 0, .int .i64 0, .int .i64 0, .string ⟨#[]⟩] 59)))
  clear h
  cases zs with
  | nil =>
    unfold NoPost at HN
    have HV := Lib.hid (show pfl [] = none from rfl)
    go_enter Tryz.func100, Tryz.ntmps100
    go_wp2_with fail
    refine HN.out.mono ?_
    rintro e w1 ⟨rfl, hg⟩
    go_wp2
    refine ⟨rfl, ?_⟩
    rw [HV.out]
    exact ⟨rfl, grown_trans G1.out hg⟩
  | cons z ys =>
    unfold NoPost at HN
    dsimp only at HN
    cases hc : pcl ys with
    | none =>
      have HV := Lib.hid (show pfl (z :: ys) = none by unfold pfl; simp only [hc])
      go_enter Tryz.func100, Tryz.ntmps100
      go_wp2_with fail
      refine HN.out.mono ?_
      rintro e w1 ⟨rfl, hr, hg⟩
      have HC := rcell_any q ys w1 hr
      rw [hc] at HC
      unfold RClPost at HC
      have HC := Lib.hid HC
      have G2 := Lib.hid (grown_trans G1.out hg)
      clear hr hg hc
      go_wp2_with fail
      refine HC.out.mono ?_
      rintro e w2 ⟨rfl, hg⟩
      go_wp2
      refine ⟨rfl, ?_⟩
      rw [HV.out]
      exact ⟨rfl, grown_trans G2.out hg⟩
    | some p =>
      obtain ⟨⟨n, r, s⟩, rs⟩ := p
      have HV := Lib.hid (show pfl (z :: ys) = some (⟨z, ⟨n, r, s⟩⟩, rs) by unfold pfl; simp only [hc])
      go_enter Tryz.func100, Tryz.ntmps100
      go_wp2_with fail
      refine HN.out.mono ?_
      rintro e w1 ⟨rfl, hr, hg⟩
      have HC := rcell_any q ys w1 hr
      rw [hc] at HC
      unfold RClPost Cel.v at HC
      dsimp only at HC
      have HC := Lib.hid HC
      have G2 := Lib.hid (grown_trans G1.out hg)
      have S3 := Lib.hid (S2.out.kept hg (by have := HQ.out; omega))
      clear hr hg hc
      go_wp2_with fail
      refine HC.out.mono ?_
      rintro e w2 ⟨rfl, hr, hg⟩
      have s4 := S3.out.kept hg (by have := HQ.out; omega)
      have e0 := s4.c0
      have e1 := s4.c1
      have e2 := s4.c2
      have e3 := s4.c3
      have f0 := s4.fz 0
      have f1 := s4.fz 1
      have f2 := s4.fz 2
      have f3 := s4.fz 3
      have S9 := Lib.hid (s4.put ⟨z, n, r, s⟩)
      have R9 := Lib.hid ((((hr.set 0 (.int .i64 z) HQ.out).set 1 (.int .i64 n) HQ.out).set 2 (.int .i64 r) HQ.out).set 3 (.string s) HQ.out)
      have G9 := Lib.hid (gq_set (gq_set (gq_set (gq_set (grown_trans G2.out hg) 0 (.int .i64 z) (Nat.le_refl w.heap.size)) 1 (.int .i64 n) (Nat.le_refl w.heap.size)) 2 (.int .i64 r) (Nat.le_refl w.heap.size)) 3 (.string s) (Nat.le_refl w.heap.size))
      clear hr hg s4
      go_wp2
      refine bodyPost_ret (v := Fld.v ⟨z, n, r, s⟩) ?_ rfl ?_
      · exact res_fl Tryz.results100 rfl S9.out
      · rw [HV.out]
        exact ⟨rfl, R9.out, G9.out⟩
end Go.Proofs.YtcmknbdeafcknaaGreatDoor

