/-
  What the document's own Sum answers: the digest of bytes, for every slice that reads as bytes; nothing that was there is written.
-/
import Derived.Test.YtonbhcbkelmhgaaDoorShaRWords
import Derived.Test.YtonbhcbkelmhgaaDoorShaRMsg
import Derived.Test.YtonbhcbkelmhgaaDoorShaSum
namespace Go.Proofs.YtonbhcbkelmhgaaDoor
open Go.RowKit WM
set_option linter.unusedVariables false
theorem size_at_least {zs : List Int} : 64 ≤ (SH.msg zs).length := by
  have h1 := SH.msg_len zs
  have h2 : 0 < (SH.msg zs).length := by rw [SH.msg, List.length_append, SH.tail_len]; omega
  omega
theorem ixd (g len cap i : Nat) (h : i < len) (w : World) : (Instr.indexAt 91 (.slice (some ⟨g, 0, none⟩) len cap) (.int .i64 (i : Int))).run Tryd.prog w = .ok (.pointer (some ⟨g, i, none⟩)) w := ixw g len cap i h w
/-- What stands in memory while a message is gone through. -/
def InSum (w : World) (b4 off4 : Nat) (M : List Int) (wr : World) : Prop :=
  BRow wr w.heap.size 69 (List.replicate 32 0) ∧ (b4 < wr.heap.size ∧ ∀ i, i < M.length → wr.cell? ⟨b4, off4 + i, none⟩ = some (.int .u8 (M.getD i 0))) ∧ Below w.heap.size w wr
theorem InSum.below {w : World} {b4 off4 : Nat} {M : List Int} {X X' : World} (h : InSum w b4 off4 M X) (hb : Below X.heap.size X X') : InSum w b4 off4 M X' :=
  ⟨h.1.below hb h.1.lt, ⟨Nat.lt_of_lt_of_le h.2.1.1 hb.size, fun i hi => (hb.cell (by simp only; exact h.2.1.1)).trans (h.2.1.2 i hi)⟩, h.2.2.trans (hb.mono h.2.2.size)⟩
theorem InSum.set {w : World} {b4 off4 : Nat} {M : List Int} {X : World} (h : InSum w b4 off4 M X) {g : Nat} (hg : w.heap.size < g) (hg4 : b4 ≠ g) (j : Nat) (v : Value) : InSum w b4 off4 M (X.setCell ⟨g, j, none⟩ v) :=
  ⟨h.1.other (by simp only; omega) v, ⟨by rw [World.size_setCell]; exact h.2.1.1, fun i hi => (World.cell?_setCell_far X ⟨g, j, none⟩ ⟨b4, off4 + i, none⟩ v (fun e => hg4 e.symm)).trans (h.2.1.2 i hi)⟩, h.2.2.setCell (by simp only; omega) v⟩
set_option maxHeartbeats 8000000 in
set_option maxRecDepth 100000 in
theorem rsum_dig {B : Nat} (A : Option Addr) (len cap : Nat) (zs : List Int) (w : World) (h : Byt w B A zs) (hl : zs.length = len) (hn : len ≤ 100000000) (hnil : A = none → cap = 0) (hb : AllBytes zs) (hB : B ≤ w.heap.size) :
    Calls Tryd.prog 70 #[.slice A len cap] w (DSumPost zs w) := by
  have hz := zeroD
  have HM := Lib.hid (fun (X : World) (hX : Below w.heap.size w X) => rmsg_any A len cap zs X (h.below (hX.mono hB)) hl hn hnil (Nat.le_trans hB hX.size))
  have hMl := SH.msg_len zs
  have hMg : 64 ≤ (SH.msg zs).length := size_at_least
  have hMb : AllBytes (SH.msg zs) := all_append hb (tail_bytes _ _)
  have hMle : (SH.msg zs).length ≤ 100000200 := by rw [SH.msg, List.length_append, SH.tail_len, hl]; unfold SH.gap; omega
  have HE := Lib.hid (show SH.sum zs = SH.dig (SH.blocks SH.H0 (SH.msg zs) ((SH.msg zs).length / 64)) from rfl)
  have HP : Hid (∀ e w', e = .returned (.agg (bvals (SH.sum zs))) → Below w.heap.size w w' → DSumPost zs w e w') := Lib.hid (fun _ _ h1 h2 => ⟨h1, h2⟩)
  have hI := Lib.hid (show (Tryd.prog.info? 69).map (·.size) = some (bvals (SH.sum zs)).size by rw [sizeD, bvals_size, SH.sum_len])
  obtain ⟨i0, hi, hz0, hz1, hz2⟩ := info_parts infoWord
  clear h hl hnil hb
  generalize SH.msg zs = M at *
  have r2 := BRow.new w 69 (List.replicate 32 0)
  have r3 := Row.new (w.alloc (.cells (bvals (List.replicate 32 0)) 69)) 90 SH.H0.list
  rw [World.size_alloc] at r3
  have r2' := r2.old (.cells (vals SH.H0.list) 90)
  have bb : Below w.heap.size w ((w.alloc (.cells (bvals (List.replicate 32 0)) 69)).alloc (.cells (vals SH.H0.list) 90)) := ((Below.refl _ _).alloc (Nat.le_refl _) _).alloc (by simp) _
  have HR2 := Lib.hid r2'
  have HR3 := Lib.hid r3
  have HBB := Lib.hid bb
  have HMB := Lib.hid hMb
  have HML := Lib.hid hMl
  clear r2 r2' r3 bb hMb hMl
  generalize hZ32 : bvals (List.replicate 32 0) = Z32 at *
  go_enter Tryd.func70, Tryd.ntmps70
  go_wp2_with fail
  refine (HM.out _ HBB.out).mono ?_
  rintro e x4 ⟨A4, n4, c4, rfl, hn4, hnc4, hcm4, hown4, hb4⟩
  have hsz4 : ((w.alloc (.cells Z32 69)).alloc (.cells (vals SH.H0.list) 90)).heap.size = w.heap.size + 2 := by simp
  have hr4 := HR3.out.below hb4 (by rw [hsz4]; omega)
  have hin4 : ∃ b4 off4, A4 = some ⟨b4, off4, none⟩ ∧ w.heap.size + 2 ≤ b4 ∧ InSum w b4 off4 M x4 := by
    obtain ⟨b4, off4, hA, hlt, hc⟩ := Byt.own (zs := M) hown4 (fun e => by rw [e] at hMg; simp at hMg)
    refine ⟨b4, off4, hA, ?_, HR2.out.below hb4 (by rw [hsz4]; omega), ⟨hlt, hc⟩, HBB.out.trans (hb4.mono HBB.out.size)⟩
    have := own_base hown4 (g := b4) (by rw [hA]; simp [Value.ownBlock])
    rw [hsz4] at this
    exact this
  obtain ⟨b4, off4, rfl, hb4g, hin⟩ := hin4
  have HIN := Lib.hid hin
  have HR := Lib.hid hr4
  have hg4 : b4 ≠ w.heap.size + 1 := by omega
  unfold maxLen at hcm4
  clear hin hr4 hown4 hb4 hsz4 hb4g HM HR2 HR3 HBB
  go_wp2_with fail
  go_loopw [5] (fun i wr => ∃ n m : Nat, m = 64 * n ∧ m ≤ n4 ∧ i = .int .i64 (m : Int) ∧ Row wr (w.heap.size + 1) 90 (SH.blocks SH.H0 M n).list ∧ InSum w b4 off4 M wr) (fun i _ => n4 - (intOf i).toNat)
  case atStart => exact ⟨0, 0, rfl, by omega, rfl, HR.out, HIN.out⟩
  case round =>
    clear HIN HR
    obtain ⟨n, m, hm, hmle, rfl, hrS, hin⟩ := hrel
    by_cases hlt : m < n4
    · have hm64 : m + 64 ≤ n4 := by have := HML.out; rw [hn4] at this; omega
      have hsl := fun w9 => sl_lh b4 off4 n4 c4 m (m + 64) (by omega) (by omega) (by omega) (m : Int) ((m : Int) + 64) rfl (by omega) w9
      rw [Nat.add_sub_cancel_left] at hsl
      have hok := SH.blocks_ok M SH.H0_ok n
      have HNB := Lib.hid (show SH.blocks SH.H0 M (n + 1) = SH.blk (SH.blocks SH.H0 M n) ((M.drop m).take 64) by rw [SH.blocks, hm])
      unfold SH.blk at HNB
      have hz64 : ((M.drop m).take 64).length = 64 := by rw [List.length_take, List.length_drop, hn4]; omega
      have CWD := Lib.hid (rwords_any b4 (off4 + m) (c4 - m) ((M.drop m).take 64) wr hz64 (all_take (all_drop HMB.out m) 64) hin.2.1.1 (Nat.le_refl _) (fun i hi => by
        have := hin.2.1.2 (m + i) (by rw [hn4]; omega)
        rw [← Nat.add_assoc] at this
        rw [this]
        simp [List.getD, hi]))
      have Hm := Lib.hid hm
      have HrS := Lib.hid hrS
      have Hin := Lib.hid hin
      have HOK := Lib.hid hok
      have hTl := SH.ws_len ((M.drop m).take 64) 64
      clear hm hrS hin hok hz64
      generalize SH.blocks SH.H0 M n = s0 at *
      generalize SH.ws ((M.drop m).take 64) 64 = T at *
      go_wp2_with fail
      refine CWD.out.mono ?_
      rintro e x5 ⟨v6, rfl, how⟩
      obtain ⟨gw, cw, rfl, hgw, hgwl, hgc, hcmw, hcw⟩ := how.open (by omega)
      rw [hTl] at hcw hgc ⊢
      have hin5 := Hin.out.below how.2
      have hrS5 := HrS.out.below how.2 HrS.out.lt
      have nil5 := World.ownsRow_nil x5 x5.heap.size 90 1
      have srcS : ∀ j u, (s0.list.map wv)[j]? = some u → x5.cell? ((⟨w.heap.size + 1, 0, none⟩ : Addr).add j) = some u := fun j u hj => by
        rw [List.getElem?_map, Option.map_eq_some_iff] at hj
        obtain ⟨y, hy, rfl⟩ := hj
        have hjl := (List.getElem?_eq_some_iff.1 hy).1
        rw [Addr.add_lit, Nat.zero_add, hrS5.cell hjl]
        simp [List.getD, hy, wv]
      have HIN5 := Lib.hid hin5
      have HRS5 := Lib.hid hrS5
      have HCW := Lib.hid hcw
      unfold maxLen at hcmw
      clear hin5 hrS5 hcw how Hin HrS CWD
      go_wp2_with (at_builtin; refine wpList_append_own (o := ⟨some 34, _, _, _, _, _⟩) _ rfl _ _ 91 rfl x5.heap.size 90 i0 (.int .u32 0) 1 4 Tryd.underlying91 hi hz0 hz1 hz2 rfl (by omega) _ 0 [] rfl nil5 ⟨w.heap.size + 1, 0, none⟩ 8 8 (s0.list.map wv) rfl (by rw [List.length_map, list_len]) srcS (by intro u hu; obtain ⟨y, _, rfl⟩ := List.mem_map.1 hu; rfl) (by simp only [maxLen]; omega) (by omega) (Nat.le_refl _) ?_; intro v7 x6 ho7 hg7 _)
      have hb6 : Below x5.heap.size x5 x6 := (Below.refl _ _).grown hg7 (Nat.le_refl _) (fun g hg => by cases hg)
      have ho7' : OwnW x5 x6 v7 s0.list := ⟨by rw [list_len]; simpa using ho7, hb6⟩
      obtain ⟨gs0, cs0, rfl, hgs0b, hgs0l, hgs0c, hcm0, hcs0⟩ := ho7'.open (by rw [list_len]; omega)
      rw [list_len] at hcs0 hgs0c ⊢
      have HGS0 : Hid (w.heap.size + 1 < gs0) := Lib.hid (by have := HRS5.out.lt; omega)
      have HIN6 := Lib.hid (HIN5.out.below hb6)
      have HRS6 := Lib.hid (HRS5.out.below hb6 HRS5.out.lt)
      have HCW6 := Lib.hid (fun (j : Nat) (hj : j < 64) => (hb6.cell (p := ⟨gw, j, none⟩) hgwl).trans (HCW.out j hj))
      have HGW6 := Lib.hid (Nat.lt_of_lt_of_le hgwl hb6.size)
      have HCS0 := Lib.hid hcs0
      unfold maxLen at hcm0
      clear ho7 hg7 ho7' hcs0 HIN5 HRS5 HCW srcS nil5 hb6 hgw
      generalize x6 = X6 at *
      go_wp2_with fail
      go_loopw [7, 8] (fun v i wr => ∃ (k gs cs : Nat), k ≤ 64 ∧ i = .int .i64 (k : Int) ∧ v = .slice (some ⟨gs, 0, none⟩) 8 cs ∧ 8 ≤ cs ∧ cs ≤ 9223372036854775807 ∧ w.heap.size + 1 < gs ∧ gs < wr.heap.size ∧ (∀ j, j < 8 → wr.cell? ⟨gs, j, none⟩ = some (.int .u32 ((SH.rnds s0 T k).list.getD j 0 : Nat))) ∧ Below X6.heap.size X6 wr) (fun _ i _ => 64 - (intOf i).toNat)
      case atStart => exact ⟨0, gs0, cs0, by omega, rfl, rfl, hgs0c, by omega, HGS0.out, hgs0l, HCS0.out, Below.refl _ _⟩
      case round =>
        obtain ⟨k, gs, cs, hk, rfl, rfl, hcs8, hcsm, hgsb, hgsl, hcs, hbel⟩ := hrel
        by_cases hkl : k < 64
        · have hrok := SH.rnds_ok T HOK.out k
          obtain ⟨Kk, hKk⟩ : ∃ Kk, SH.K.getD k 0 = Kk := ⟨_, rfl⟩
          obtain ⟨p1, S1, q1, ef, ne, eg, c, q2, q3, t, p2, S0, ab, ac, bc, o1, mj, u, na, nd, ⟨e1, e2, e3, e4, e5, e6, e7, e8, e9, e10⟩, ⟨f1, f2, f3, f4, f5, f6, f7, f8⟩, ⟨f9, f10⟩, hnext⟩ := round_vals (SH.rnds s0 T k) hrok Kk (T.getD k 0)
          have HNR := Lib.hid (show SH.rnds s0 T (k + 1) = _ by rw [SH.rnds, hKk, hnext])
          have tE := Lib.hid (fun (n : Int) (w : World) => rturned (SH.rnds s0 T k).e n w hrok.2.2.2.2.1)
          have tA := Lib.hid (fun (n : Int) (w : World) => rturned (SH.rnds s0 T k).a n w hrok.1)
          have ene : ne = 4294967295 - (SH.rnds s0 T k).e := by
            have := u32_not hrok.2.2.2.2.1
            rw [e5] at this
            omega
          have hel := hrok.2.2.2.2.1
          have c0 : wr.cell? ⟨gs, 0, none⟩ = some (.int .u32 ((SH.rnds s0 T k).a : Int)) := hcs 0 (by omega)
          have c1 : wr.cell? ⟨gs, 1, none⟩ = some (.int .u32 ((SH.rnds s0 T k).b : Int)) := hcs 1 (by omega)
          have c2 : wr.cell? ⟨gs, 2, none⟩ = some (.int .u32 ((SH.rnds s0 T k).c : Int)) := hcs 2 (by omega)
          have c3 : wr.cell? ⟨gs, 3, none⟩ = some (.int .u32 ((SH.rnds s0 T k).d : Int)) := hcs 3 (by omega)
          have c4' : wr.cell? ⟨gs, 4, none⟩ = some (.int .u32 ((SH.rnds s0 T k).e : Int)) := hcs 4 (by omega)
          have c5 : wr.cell? ⟨gs, 5, none⟩ = some (.int .u32 ((SH.rnds s0 T k).f : Int)) := hcs 5 (by omega)
          have c6 : wr.cell? ⟨gs, 6, none⟩ = some (.int .u32 ((SH.rnds s0 T k).g : Int)) := hcs 6 (by omega)
          have c7 : wr.cell? ⟨gs, 7, none⟩ = some (.int .u32 ((SH.rnds s0 T k).h : Int)) := hcs 7 (by omega)
          have cw' : wr.cell? ⟨gw, k, none⟩ = some (.int .u32 (T.getD k 0 : Nat)) := (hbel.cell (p := ⟨gw, k, none⟩) HGW6.out).trans (HCW6.out k hkl)
          have HKK := Lib.hid hKk
          clear hcs hrok hnext hKk
          generalize T.getD k 0 = Wk at *
          generalize (SH.rnds s0 T k).a = sa at *
          generalize (SH.rnds s0 T k).b = sb at *
          generalize (SH.rnds s0 T k).c = sc at *
          generalize (SH.rnds s0 T k).d = sd at *
          generalize (SH.rnds s0 T k).e = se at *
          generalize (SH.rnds s0 T k).f = sf at *
          generalize (SH.rnds s0 T k).g = sg at *
          generalize (SH.rnds s0 T k).h = sh at *
          have E3 : IntKind.u32.wrap ((sh : Int) + (S1 : Int)) = (q1 : Int) := by rw [IntKind.wrap_u32']; exact e3
          have E5 : IntKind.u32.wrap ((4294967295 : Int) - (se : Int)) = (ne : Int) := by rw [IntWalk.u32_in _ (by omega)]; omega
          have E8 : IntKind.u32.wrap ((q1 : Int) + (c : Int)) = (q2 : Int) := by rw [IntKind.wrap_u32']; exact e8
          have E9 : IntKind.u32.wrap ((q2 : Int) + (Kk : Int)) = (q3 : Int) := by rw [IntKind.wrap_u32']; exact e9
          have E10 : IntKind.u32.wrap ((q3 : Int) + (Wk : Int)) = (t : Int) := by rw [IntKind.wrap_u32']; exact e10
          have F9 : IntKind.u32.wrap ((t : Int) + (u : Int)) = (na : Int) := by rw [IntKind.wrap_u32']; exact f9
          have F10 : IntKind.u32.wrap ((sd : Int) + (t : Int)) = (nd : Int) := by rw [IntKind.wrap_u32']; exact f10
          have x5i := fun w9 => ixd gs 8 cs 5 (by omega) w9
          have x6i := fun w9 => ixd gs 8 cs 6 (by omega) w9
          have x7i := fun w9 => ixd gs 8 cs 7 (by omega) w9
          have xwi := fun w9 => ixd gw 64 cw k (by omega) w9
          have x7 := Lib.hid (True.intro)
          have X7 := Lib.hid x7
          have HLT := Lib.hid hkl
          have HGS := Lib.hid hgsl
          have HGW := Lib.hid (Nat.lt_of_lt_of_le HGW6.out hbel.size)
          have HBel := Lib.hid hbel
          have C5 := Lib.hid c5
          have C6 := Lib.hid c6
          have C7 := Lib.hid c7
          have CW := Lib.hid cw'
          have HC1 := Lib.hid c1
          have HC2 := Lib.hid c2
          have HC3 := Lib.hid c3
          clear hbel hgsl c5 c6 c7 cw' c1 c2 c3 ene e3 e5 e8 e9 e10 f9 f10
          go_wp2_with fail
          clear c0 c4'
          refine wp_region_held_drew (S := fun w' => Below wr.drew.heap.size wr.drew w') (by kernel_rfl) (Below.refl _ _) (fun hS => ?_)
          have x7 := X7.out
          have hlt7 : gs < wr.drew.heap.size := HGS.out
          have hltw : gw < wr.drew.heap.size := HGW.out
          have d7 : wr.drew.cell? ⟨gs, 7, none⟩ = some (.int .u32 (sh : Int)) := C7.out
          have d5 : wr.drew.cell? ⟨gs, 5, none⟩ = some (.int .u32 (sf : Int)) := C5.out
          have d6 : wr.drew.cell? ⟨gs, 6, none⟩ = some (.int .u32 (sg : Int)) := C6.out
          have dw : wr.drew.cell? ⟨gw, k, none⟩ = some (.int .u32 (Wk : Int)) := CW.out
          have D1 : Hid (wr.drew.cell? ⟨gs, 1, none⟩ = some (.int .u32 (sb : Int))) := Lib.hid HC1.out
          have D2 : Hid (wr.drew.cell? ⟨gs, 2, none⟩ = some (.int .u32 (sc : Int))) := Lib.hid HC2.out
          have D3 : Hid (wr.drew.cell? ⟨gs, 3, none⟩ = some (.int .u32 (sd : Int))) := Lib.hid HC3.out
          have HD := Lib.hid (show Below X6.heap.size X6 wr.drew from HBel.out.drew)
          generalize wr.drew = X at *
          refine wpAnyH_take (i := 0) (oi := ⟨some 45, _, _, _, _, _⟩) (v := ?_) rfl (by kernel_rfl) (by kernel_rfl) (by kernel_rfl) (fun _ _ _ h => h) (Or.inl ⟨by rfl, ?_⟩) hS ?_; rotate_left; (focus (intro w9 hSw; (try dsimp only at hSw); go_simp; try with_reducible rfl)); simp only [Act.put, List.setIfInBounds_toArray, List.set_cons_zero, List.set_cons_succ]
          refine wpAnyH_take (i := 1) (oi := ⟨some 46, _, _, _, _, _⟩) (v := ?_) rfl (by kernel_rfl) (by kernel_rfl) (by kernel_rfl) (fun _ _ _ h => h) (Or.inl ⟨by rfl, ?_⟩) hS ?_; rotate_left; (focus (intro w9 hSw; (try dsimp only at hSw); go_simp; try with_reducible rfl)); simp only [Act.put, List.setIfInBounds_toArray, List.set_cons_zero, List.set_cons_succ]
          refine wpAnyH_take (i := 2) (oi := ⟨some 47, _, _, _, _, _⟩) (v := ?_) rfl (by kernel_rfl) (by kernel_rfl) (by kernel_rfl) (fun _ _ _ h => h) (Or.inl ⟨by rfl, ?_⟩) hS ?_; rotate_left; (focus (intro w9 hSw; (try dsimp only at hSw); have c9 := (hSw.cell (p := ⟨gs, 7, none⟩) hlt7).trans d7; go_simp; try with_reducible rfl)); simp only [Act.put, List.setIfInBounds_toArray, List.set_cons_zero, List.set_cons_succ]
          refine wpAnyH_take (i := 3) (oi := ⟨some 48, _, _, _, _, _⟩) (v := ?_) rfl (by kernel_rfl) (by kernel_rfl) (by kernel_rfl) (fun _ _ _ h => h) (Or.inl ⟨by rfl, ?_⟩) hS ?_; rotate_left; (focus (intro w9 hSw; (try dsimp only at hSw); go_simp; try with_reducible rfl)); simp only [Act.put, List.setIfInBounds_toArray, List.set_cons_zero, List.set_cons_succ]
          refine wpAnyH_take (i := 5) (oi := ⟨some 50, _, _, _, _, _⟩) (v := ?_) rfl (by kernel_rfl) (by kernel_rfl) (by kernel_rfl) (fun _ _ _ h => h) (Or.inl ⟨by rfl, ?_⟩) hS ?_; rotate_left; (focus (intro w9 hSw; (try dsimp only at hSw); go_simp; try with_reducible rfl)); simp only [Act.put, List.setIfInBounds_toArray, List.set_cons_zero, List.set_cons_succ]
          refine wpAnyH_take (i := 8) (oi := ⟨some 53, _, _, _, _, _⟩) (v := ?_) rfl (by kernel_rfl) (by kernel_rfl) (by kernel_rfl) (fun _ _ _ h => h) (Or.inl ⟨by rfl, ?_⟩) hS ?_; rotate_left; (focus (intro w9 hSw; (try dsimp only at hSw); go_simp; try with_reducible rfl)); simp only [Act.put, List.setIfInBounds_toArray, List.set_cons_zero, List.set_cons_succ]
          refine wpAnyH_take (i := 12) (oi := ⟨some 57, _, _, _, _, _⟩) (v := ?_) rfl (by kernel_rfl) (by kernel_rfl) (by kernel_rfl) (fun _ _ _ h => h) (Or.inl ⟨by rfl, ?_⟩) hS ?_; rotate_left; (focus (intro w9 hSw; (try dsimp only at hSw); go_simp; try with_reducible rfl)); simp only [Act.put, List.setIfInBounds_toArray, List.set_cons_zero, List.set_cons_succ]
          refine wpAnyH_take (i := 13) (oi := ⟨some 58, _, _, _, _, _⟩) (v := ?_) rfl (by kernel_rfl) (by kernel_rfl) (by kernel_rfl) (fun _ _ _ h => h) (Or.inl ⟨by rfl, ?_⟩) hS ?_; rotate_left; (focus (intro w9 hSw; (try dsimp only at hSw); go_simp; try with_reducible rfl)); simp only [Act.put, List.setIfInBounds_toArray, List.set_cons_zero, List.set_cons_succ]
          refine wpAnyH_take (i := 14) (oi := ⟨some 59, _, _, _, _, _⟩) (v := ?_) rfl (by kernel_rfl) (by kernel_rfl) (by kernel_rfl) (fun _ _ _ h => h) (Or.inl ⟨by rfl, ?_⟩) hS ?_; rotate_left; (focus (intro w9 hSw; (try dsimp only at hSw); go_simp; try with_reducible rfl)); simp only [Act.put, List.setIfInBounds_toArray, List.set_cons_zero, List.set_cons_succ]
          refine wpAnyH_take (i := 15) (oi := ⟨some 60, _, _, _, _, _⟩) (v := ?_) rfl (by kernel_rfl) (by kernel_rfl) (by kernel_rfl) (fun _ _ _ h => h) (Or.inl ⟨by rfl, ?_⟩) hS ?_; rotate_left; (focus (intro w9 hSw; (try dsimp only at hSw); have c9 := (hSw.cell (p := ⟨gs, 5, none⟩) hlt7).trans d5; go_simp; try with_reducible rfl)); simp only [Act.put, List.setIfInBounds_toArray, List.set_cons_zero, List.set_cons_succ]
          refine wpAnyH_take (i := 16) (oi := ⟨some 61, _, _, _, _, _⟩) (v := ?_) rfl (by kernel_rfl) (by kernel_rfl) (by kernel_rfl) (fun _ _ _ h => h) (Or.inl ⟨by rfl, ?_⟩) hS ?_; rotate_left; (focus (intro w9 hSw; (try dsimp only at hSw); go_simp; try with_reducible rfl)); simp only [Act.put, List.setIfInBounds_toArray, List.set_cons_zero, List.set_cons_succ]
          refine wpAnyH_take (i := 17) (oi := ⟨some 62, _, _, _, _, _⟩) (v := ?_) rfl (by kernel_rfl) (by kernel_rfl) (by kernel_rfl) (fun _ _ _ h => h) (Or.inl ⟨by rfl, ?_⟩) hS ?_; rotate_left; (focus (intro w9 hSw; (try dsimp only at hSw); go_simp; try with_reducible rfl)); simp only [Act.put, List.setIfInBounds_toArray, List.set_cons_zero, List.set_cons_succ]
          refine wpAnyH_take (i := 18) (oi := ⟨some 63, _, _, _, _, _⟩) (v := ?_) rfl (by kernel_rfl) (by kernel_rfl) (by kernel_rfl) (fun _ _ _ h => h) (Or.inl ⟨by rfl, ?_⟩) hS ?_; rotate_left; (focus (intro w9 hSw; (try dsimp only at hSw); go_simp; try with_reducible rfl)); simp only [Act.put, List.setIfInBounds_toArray, List.set_cons_zero, List.set_cons_succ]
          refine wpAnyH_take (i := 19) (oi := ⟨some 64, _, _, _, _, _⟩) (v := ?_) rfl (by kernel_rfl) (by kernel_rfl) (by kernel_rfl) (fun _ _ _ h => h) (Or.inl ⟨by rfl, ?_⟩) hS ?_; rotate_left; (focus (intro w9 hSw; (try dsimp only at hSw); go_simp; try with_reducible rfl)); simp only [Act.put, List.setIfInBounds_toArray, List.set_cons_zero, List.set_cons_succ]
          refine wpAnyH_take (i := 20) (oi := ⟨some 65, _, _, _, _, _⟩) (v := ?_) rfl (by kernel_rfl) (by kernel_rfl) (by kernel_rfl) (fun _ _ _ h => h) (Or.inl ⟨by rfl, ?_⟩) hS ?_; rotate_left; (focus (intro w9 hSw; (try dsimp only at hSw); go_simp; try with_reducible rfl)); simp only [Act.put, List.setIfInBounds_toArray, List.set_cons_zero, List.set_cons_succ]
          refine wpAnyH_take (i := 21) (oi := ⟨some 66, _, _, _, _, _⟩) (v := ?_) rfl (by kernel_rfl) (by kernel_rfl) (by kernel_rfl) (fun _ _ _ h => h) (Or.inl ⟨by rfl, ?_⟩) hS ?_; rotate_left; (focus (intro w9 hSw; (try dsimp only at hSw); have c9 := (hSw.cell (p := ⟨gs, 6, none⟩) hlt7).trans d6; go_simp; try with_reducible rfl)); simp only [Act.put, List.setIfInBounds_toArray, List.set_cons_zero, List.set_cons_succ]
          refine wpAnyH_take (i := 22) (oi := ⟨some 67, _, _, _, _, _⟩) (v := ?_) rfl (by kernel_rfl) (by kernel_rfl) (by kernel_rfl) (fun _ _ _ h => h) (Or.inl ⟨by rfl, ?_⟩) hS ?_; rotate_left; (focus (intro w9 hSw; (try dsimp only at hSw); go_simp; try with_reducible rfl)); simp only [Act.put, List.setIfInBounds_toArray, List.set_cons_zero, List.set_cons_succ]
          refine wpAnyH_take (i := 23) (oi := ⟨some 68, _, _, _, _, _⟩) (v := ?_) rfl (by kernel_rfl) (by kernel_rfl) (by kernel_rfl) (fun _ _ _ h => h) (Or.inl ⟨by rfl, ?_⟩) hS ?_; rotate_left; (focus (intro w9 hSw; (try dsimp only at hSw); go_simp; try with_reducible rfl)); simp only [Act.put, List.setIfInBounds_toArray, List.set_cons_zero, List.set_cons_succ]
          refine wpAnyH_take (i := 26) (oi := ⟨some 71, _, _, _, _, _⟩) (v := ?_) rfl (by kernel_rfl) (by kernel_rfl) (by kernel_rfl) (fun _ _ _ h => h) (Or.inl ⟨by rfl, ?_⟩) hS ?_; rotate_left; (focus (intro w9 hSw; (try dsimp only at hSw); go_simp; try with_reducible rfl)); simp only [Act.put, List.setIfInBounds_toArray, List.set_cons_zero, List.set_cons_succ]
          refine wpAnyH_take (i := 30) (oi := ⟨some 75, _, _, _, _, _⟩) (v := ?_) rfl (by kernel_rfl) (by kernel_rfl) (by kernel_rfl) (fun _ _ _ h => h) (Or.inl ⟨by rfl, ?_⟩) hS ?_; rotate_left; (focus (intro w9 hSw; (try dsimp only at hSw); go_simp; try with_reducible rfl)); simp only [Act.put, List.setIfInBounds_toArray, List.set_cons_zero, List.set_cons_succ]
          refine wpAnyH_take (i := 31) (oi := ⟨some 76, _, _, _, _, _⟩) (v := ?_) rfl (by kernel_rfl) (by kernel_rfl) (by kernel_rfl) (fun _ _ _ h => h) (Or.inl ⟨by rfl, ?_⟩) hS ?_; rotate_left; (focus (intro w9 hSw; (try dsimp only at hSw); go_simp; try with_reducible rfl)); simp only [Act.put, List.setIfInBounds_toArray, List.set_cons_zero, List.set_cons_succ]
          refine wpAnyH_take (i := 32) (oi := ⟨some 77, _, _, _, _, _⟩) (v := ?_) rfl (by kernel_rfl) (by kernel_rfl) (by kernel_rfl) (fun _ _ _ h => h) (Or.inl ⟨by rfl, ?_⟩) hS ?_; rotate_left; (focus (intro w9 hSw; (try dsimp only at hSw); go_simp; try with_reducible rfl)); simp only [Act.put, List.setIfInBounds_toArray, List.set_cons_zero, List.set_cons_succ]
          refine wpAnyH_take (i := 33) (oi := ⟨some 78, _, _, _, _, _⟩) (v := ?_) rfl (by kernel_rfl) (by kernel_rfl) (by kernel_rfl) (fun _ _ _ h => h) (Or.inl ⟨by rfl, ?_⟩) hS ?_; rotate_left; (focus (intro w9 hSw; (try dsimp only at hSw); have c9 := (hSw.cell (p := ⟨gw, k, none⟩) hltw).trans dw; go_simp; try with_reducible rfl)); simp only [Act.put, List.setIfInBounds_toArray, List.set_cons_zero, List.set_cons_succ]
          refine wpAnyH_ready (rs := [4]) (by kernel_rfl) (by simp) (AllReadyH.cons (o := ⟨some 49, _, _, _, _, _⟩) rfl (fun K hK => ?_) AllReadyH.nil)
          go_simp
          refine (tE.out _ _ (by decide) (by decide)).mono ?_
          rintro e y49 ⟨rfl, hy9⟩
          rw [hy9]
          clear hy9
          refine hK.out _ _ hS (fun _ => ?_)
          clear hK K
          refine wpAnyH_ready (rs := [6]) (by kernel_rfl) (by simp) (AllReadyH.cons (o := ⟨some 51, _, _, _, _, _⟩) rfl (fun K hK => ?_) AllReadyH.nil)
          go_simp
          refine (tE.out _ _ (by decide) (by decide)).mono ?_
          rintro e y51 ⟨rfl, hy9⟩
          rw [hy9]
          clear hy9
          refine hK.out _ _ hS (fun _ => ?_)
          clear hK K
          refine wpAnyH_take (i := 7) (oi := ⟨some 52, _, _, _, _, _⟩) (v := ?_) rfl (by kernel_rfl) (by kernel_rfl) (by kernel_rfl) (fun _ _ _ h => h) (Or.inl ⟨by rfl, ?_⟩) hS ?_; rotate_left; (focus (intro w9 hSw; (try dsimp only at hSw); go_simp; try with_reducible rfl)); simp only [Act.put, List.setIfInBounds_toArray, List.set_cons_zero, List.set_cons_succ]
          refine wpAnyH_ready (rs := [9]) (by kernel_rfl) (by simp) (AllReadyH.cons (o := ⟨some 54, _, _, _, _, _⟩) rfl (fun K hK => ?_) AllReadyH.nil)
          go_simp
          refine (tE.out _ _ (by decide) (by decide)).mono ?_
          rintro e y54 ⟨rfl, hy9⟩
          rw [hy9]
          clear hy9
          refine hK.out _ _ hS (fun _ => ?_)
          clear hK K
          refine wpAnyH_take (i := 10) (oi := ⟨some 55, _, _, _, _, _⟩) (v := ?_) rfl (by kernel_rfl) (by kernel_rfl) (by kernel_rfl) (fun _ _ _ h => h) (Or.inl ⟨by rfl, ?_⟩) hS ?_; rotate_left; (focus (intro w9 hSw; (try dsimp only at hSw); go_simp; try with_reducible rfl)); simp only [Act.put, List.setIfInBounds_toArray, List.set_cons_zero, List.set_cons_succ]
          refine wpAnyH_take (i := 11) (oi := ⟨some 56, _, _, _, _, _⟩) (v := ?_) rfl (by kernel_rfl) (by kernel_rfl) (by kernel_rfl) (fun _ _ _ h => h) (Or.inl ⟨by rfl, ?_⟩) hS ?_; rotate_left; (focus (intro w9 hSw; (try dsimp only at hSw); go_simp; try with_reducible rfl)); simp only [Act.put, List.setIfInBounds_toArray, List.set_cons_zero, List.set_cons_succ]
          refine wpAnyH_take (i := 24) (oi := ⟨some 69, _, _, _, _, _⟩) (v := ?_) rfl (by kernel_rfl) (by kernel_rfl) (by kernel_rfl) (fun _ _ _ h => h) (Or.inl ⟨by rfl, ?_⟩) hS ?_; rotate_left; (focus (intro w9 hSw; (try dsimp only at hSw); go_simp; try with_reducible rfl)); simp only [Act.put, List.setIfInBounds_toArray, List.set_cons_zero, List.set_cons_succ]
          refine wpAnyH_ready (rs := [25]) (by kernel_rfl) (by simp) (AllReadyH.cons (o := ⟨some 70, _, _, _, _, _⟩) rfl (fun K hK => ?_) AllReadyH.nil)
          go_simp
          refine (rk_any _).mono ?_
          rintro e xm ⟨rfl, hxm⟩
          have hbm : Below X.heap.size X xm := by rw [← hxm]; exact (Below.refl _ _).alloc (Nat.le_refl _) _
          have dk : xm.cell? ⟨X.heap.size, k, none⟩ = some (.int .u32 (Kk : Int)) := by rw [← hxm]; exact ((Row.new X 90 SH.K).cell (by rw [SH.K_len]; exact HLT.out)).trans (by rw [HKK.out])
          have hltk : X.heap.size < xm.heap.size := by rw [← hxm, World.size_alloc]; omega
          refine hK.out _ _ hbm (fun _ => ?_)
          clear hK K hxm hS
          have UP := Lib.hid (fun (w9 : World) (h9 : Below xm.heap.size xm w9) => hbm.trans (h9.mono hbm.size))
          refine wpAnyH_sub (S' := fun w' => Below xm.heap.size xm w') (fun _ h => hbm.trans (h.mono hbm.size)) ?_
          have hS := Below.refl xm.heap.size xm
          refine wpAnyH_take (i := 27) (oi := ⟨some 72, _, _, _, _, _⟩) (v := ?_) rfl (by kernel_rfl) (by kernel_rfl) (by kernel_rfl) (fun _ _ _ h => h) (Or.inl ⟨by rfl, ?_⟩) hS ?_; rotate_left; (focus (intro w9 hSw; (try dsimp only at hSw); go_simp; try with_reducible rfl)); simp only [Act.put, List.setIfInBounds_toArray, List.set_cons_zero, List.set_cons_succ]
          refine wpAnyH_take (i := 28) (oi := ⟨some 73, _, _, _, _, _⟩) (v := ?_) rfl (by kernel_rfl) (by kernel_rfl) (by kernel_rfl) (fun _ _ _ h => h) (Or.inl ⟨by rfl, ?_⟩) hS ?_; rotate_left; (focus (intro w9 hSw; (try dsimp only at hSw); have c9 := (hSw.cell (p := ⟨X.heap.size, k, none⟩) hltk).trans dk; go_simp; try with_reducible rfl)); simp only [Act.put, List.setIfInBounds_toArray, List.set_cons_zero, List.set_cons_succ]
          refine wpAnyH_take (i := 29) (oi := ⟨some 74, _, _, _, _, _⟩) (v := ?_) rfl (by kernel_rfl) (by kernel_rfl) (by kernel_rfl) (fun _ _ _ h => h) (Or.inl ⟨by rfl, ?_⟩) hS ?_; rotate_left; (focus (intro w9 hSw; (try dsimp only at hSw); go_simp; try with_reducible rfl)); simp only [Act.put, List.setIfInBounds_toArray, List.set_cons_zero, List.set_cons_succ]
          refine wpAnyH_take (i := 34) (oi := ⟨some 79, _, _, _, _, _⟩) (v := ?_) rfl (by kernel_rfl) (by kernel_rfl) (by kernel_rfl) (fun _ _ _ h => h) (Or.inl ⟨by rfl, ?_⟩) hS ?_; rotate_left; (focus (intro w9 hSw; (try dsimp only at hSw); go_simp; try with_reducible rfl)); simp only [Act.put, List.setIfInBounds_toArray, List.set_cons_zero, List.set_cons_succ]
          refine wpAnyH_take (i := 35) (oi := ⟨some 11, _, _, _, _, _⟩) (v := ?_) rfl (by kernel_rfl) (by kernel_rfl) (by kernel_rfl) (fun _ _ _ h => h) (Or.inl ⟨by rfl, ?_⟩) hS ?_; rotate_left; (focus (intro w9 hSw; (try dsimp only at hSw); go_simp; try with_reducible rfl)); simp only [Act.put, List.setIfInBounds_toArray, List.set_cons_zero, List.set_cons_succ]
          refine wpAnyH_done (by kernel_rfl) ?_ _
          have HD2 : Below X6.heap.size X6 xm := HD.out.trans (hbm.mono HD.out.size)
          have g1 : xm.cell? ⟨gs, 1, none⟩ = some (.int .u32 (sb : Int)) := (hbm.cell (p := ⟨gs, 1, none⟩) hlt7).trans D1.out
          have g2 : xm.cell? ⟨gs, 2, none⟩ = some (.int .u32 (sc : Int)) := (hbm.cell (p := ⟨gs, 2, none⟩) hlt7).trans D2.out
          have g3 : xm.cell? ⟨gs, 3, none⟩ = some (.int .u32 (sd : Int)) := (hbm.cell (p := ⟨gs, 3, none⟩) hlt7).trans D3.out
          have g5 : xm.cell? ⟨gs, 5, none⟩ = some (.int .u32 (sf : Int)) := (hbm.cell (p := ⟨gs, 5, none⟩) hlt7).trans d5
          have g6 : xm.cell? ⟨gs, 6, none⟩ = some (.int .u32 (sg : Int)) := (hbm.cell (p := ⟨gs, 6, none⟩) hlt7).trans d6
          have HX := Lib.hid HD2
          have HLm : gs < xm.heap.size := Nat.lt_of_lt_of_le hlt7 hbm.size
          clear HD HD2 hbm UP hS d5 d6 d7 dw dk D1 D2 D3 E3 E5 E8 E9 E10 x5i x6i x7i xwi hlt7 hltw hltk
          clear C5 C6 C7 CW HBel HGS HGW
          go_wp2_with fail
          go_quiet (refine Calls.quiet_of_same (tA.out _ _ (by decide) (by decide)))
          go_wp2_with fail
          refine wp_still_at 22 (by kernel_rfl) (by kernel_rfl) fun W2 hW2 => ?_
          have m1 : W2.cell? ⟨gs, 1, none⟩ = some (.int .u32 (sb : Int)) := by rw [hW2]; exact g1
          have m2 : W2.cell? ⟨gs, 2, none⟩ = some (.int .u32 (sc : Int)) := by rw [hW2]; exact g2
          have m3 : W2.cell? ⟨gs, 3, none⟩ = some (.int .u32 (sd : Int)) := by rw [hW2]; exact g3
          have m5 : W2.cell? ⟨gs, 5, none⟩ = some (.int .u32 (sf : Int)) := by rw [hW2]; exact g5
          have m6 : W2.cell? ⟨gs, 6, none⟩ = some (.int .u32 (sg : Int)) := by rw [hW2]; exact g6
          have HX2 : Hid (Below X6.heap.size X6 W2) := Lib.hid (by rw [hW2]; exact (below_drewN HX.out _).drew)
          have y1 := fun w9 => ixd gs 8 cs 1 (by omega) w9
          have y2 := fun w9 => ixd gs 8 cs 2 (by omega) w9
          have y3 := fun w9 => ixd gs 8 cs 3 (by omega) w9
          have y5 := fun w9 => ixd gs 8 cs 5 (by omega) w9
          have y6 := fun w9 => ixd gs 8 cs 6 (by omega) w9
          clear hW2 g1 g2 g3 g5 g6 HX
          simp only [List.take_succ_cons, List.take_zero, List.drop_succ_cons, List.drop_zero]
          repeat still_step
          refine wpStill_nil ?_
          clear y1 y2 y3 y5 y6
          go_wp2
          go_roundw
          case rel =>
            refine ⟨k + 1, W2.heap.size, 8, by omega, by go_num, rfl, by omega, by omega, ?_, by simp, fun j hj => ?_, HX2.out.alloc HX2.out.size _⟩
            · have := HX2.out.size; have := HRS6.out.lt; omega
            · rw [HNR.out]
              exact (Row.new W2 90 (SH.St.list ⟨na, sa, sb, sc, nd, se, sf, sg⟩)).cell hj
          case measure => simp [intOf]; omega
        · obtain rfl : k = 64 := by omega
          have HNB' := Lib.hid (HNB.out)
          generalize SH.rnds s0 T 64 = r at *
          have hrS3 := HRS6.out.below hbel HRS6.out.lt
          have hin3 := HIN6.out.below hbel
          have HrS3 := Lib.hid hrS3
          have Hin3 := Lib.hid hin3
          have HCS := Lib.hid hcs
          clear hrS3 hin3 hcs hbel HRS6 HIN6 HCW6 HGW6 HCS0 HGS0
          go_wp2_with fail
          go_loopw [13] (fun i wr => ∃ j : Nat, j ≤ 8 ∧ i = .int .i64 (j : Int) ∧ Row wr (w.heap.size + 1) 90 (SH.mix s0 r j) ∧ (∀ i, i < 8 → wr.cell? ⟨gs, i, none⟩ = some (.int .u32 (r.list.getD i 0 : Nat))) ∧ InSum w b4 off4 M wr) (fun i _ => 8 - (intOf i).toNat)
          case atStart => exact ⟨0, by omega, rfl, by rw [SH.mix_zero]; exact HrS3.out, HCS.out, Hin3.out⟩
          case round =>
            clear HrS3 Hin3 HCS
            obtain ⟨j, hj, rfl, hrS, hcs, hin⟩ := hrel
            by_cases hj8 : j < 8
            · have cx := hrS.cell (j := j) (by rw [SH.mix_len]; exact hj8)
              rw [SH.mix_get s0 r hj8] at cx
              have cy := hcs j hj8
              have asum : IntKind.u32.wrap ((s0.list.getD j 0 : Nat) + ((r.list.getD j 0 : Nat) : Int)) = (SH.add (s0.list.getD j 0) (r.list.getD j 0) : Nat) := by rw [IntKind.wrap_u32']; exact u32_sum _ _
              have HS := Lib.hid (fun (W2 : World) (h2 : Row W2 (w.heap.size + 1) 90 (SH.mix s0 r j)) => h2.set j (SH.add (s0.list.getD j 0) (r.list.getD j 0)))
              rw [SH.mix_next s0 r hj8] at HS
              have HrS := Lib.hid hrS
              have Hin := Lib.hid hin
              have HCS := Lib.hid hcs
              have ix1 := fun w9 => ixd (w.heap.size + 1) 8 8 j (by omega) w9
              have ix2 := fun w9 => ixd gs 8 cs j (by omega) w9
              clear hrS hcs hin
              generalize SH.add (s0.list.getD j 0) (r.list.getD j 0) = v at *
              generalize s0.list.getD j 0 = x at *
              generalize r.list.getD j 0 = y at *
              have IX1 := Lib.hid ix1
              have IX2 := Lib.hid ix2
              clear ix1 ix2
              go_wp2_with fail
              refine wp_still_at 12 (by kernel_rfl) (by kernel_rfl) fun W2 hW2 => ?_
              have k1 : W2.cell? ⟨w.heap.size + 1, j, none⟩ = some (.int .u32 (x : Int)) := by rw [hW2]; exact cx
              have k2 : W2.cell? ⟨gs, j, none⟩ = some (.int .u32 (y : Int)) := by rw [hW2]; exact cy
              have qr : Row W2 (w.heap.size + 1) 90 (SH.mix s0 r j) := by rw [hW2]; exact HrS.out
              have qi : InSum w b4 off4 M W2 := by rw [hW2]; exact Hin.out.below (Below.refl _ _).drew
              have qc : ∀ i, i < 8 → W2.cell? ⟨gs, i, none⟩ = some (.int .u32 (r.list.getD i 0 : Nat)) := by rw [hW2]; exact HCS.out
              have hfz := qr.frozen j
              have Q1 := Lib.hid (HS.out W2 qr)
              have Q2 := Lib.hid (qi.set (g := w.heap.size + 1) (by omega) hg4 j (.int .u32 (v : Int)))
              have Q3 := Lib.hid (fun (i : Nat) (hi : i < 8) => (World.cell?_setCell_far W2 ⟨w.heap.size + 1, j, none⟩ ⟨gs, i, none⟩ (.int .u32 (v : Int)) (fun e => by simp only at e; omega)).trans (qc i hi))
              have ix1 := IX1.out
              have ix2 := IX2.out
              clear hW2 cx cy qr qi qc HrS Hin HCS HS IX1 IX2
              simp only [List.take_succ_cons, List.take_zero, List.drop_succ_cons, List.drop_zero]
              repeat still_step
              refine wpStill_nil ?_
              clear ix1 ix2
              go_wp2
              go_roundw
              case rel => ((repeat apply Exists.intro); exact ⟨⟨j + 1, by omega, by go_num, Q1.out, Q3.out, Q2.out⟩, rfl⟩)
              case measure => simp [intOf]; omega
            · obtain rfl : j = 8 := by omega
              rw [SH.mix_all] at hrS
              have HrS := Lib.hid hrS
              have Hin := Lib.hid hin
              clear hrS hcs hin
              go_wp2
              go_roundw
              case rel => exact ⟨n + 1, m + 64, by rw [Hm.out]; omega, hm64, by go_num, by rw [HNB'.out]; exact HrS.out, Hin.out⟩
              case measure => simp [intOf]; omega
    · obtain rfl : m = n4 := by omega
      have he : SH.sum zs = SH.dig (SH.blocks SH.H0 M n) := by rw [HE.out, hn4, hm, Nat.mul_div_cancel_left _ (by decide)]
      obtain ⟨hbr, _, hbel⟩ := hin
      rw [he] at HP hI
      have hok := SH.blocks_ok M SH.H0_ok n
      clear HE he hm
      generalize SH.blocks SH.H0 M n = s at *
      have hIz := Lib.hid (show (Tryd.prog.info? 69).map (·.size) = some Z32.size by rw [← hZ32, sizeD, bvals_size]; rfl)
      have hOz := Lib.hid (show Z32.all (·.oneCell') = true by rw [← hZ32]; exact bvals_one _)
      have hpz := Lib.hid (World.setRow_alloc_new wr Z32 Z32 69)
      have hnz := Lib.hid (heap_alloc_new wr (.cells Z32 69))
      have f1 : BRow (wr.alloc (.cells Z32 69)) wr.heap.size 69 (dpre s 0) := by rw [← hZ32]; exact BRow.new wr _ _
      have f2 := hrS.old (.cells Z32 69)
      have f3 := hbr.old (.cells Z32 69)
      have f4 := hbel.alloc hbel.size (.cells Z32 69)
      have hg1 : w.heap.size + 1 < wr.heap.size := hrS.lt
      have F1 := Lib.hid f1
      have F2 := Lib.hid f2
      have F3 := Lib.hid f3
      have F4 := Lib.hid f4
      clear f1 f2 f3 f4 hrS hbr hbel
      go_wp2_with (first | ((with_reducible refine wpList_store_row (o := ⟨none, .store 69 (.tmp 14) (.tmp 147), _, _, _, _⟩) ?e1 69 (.tmp 14) (.tmp 147) ?e2 wr.heap.size Z32 ?e3 ?e4 69 Z32 hnz.out hIz.out rfl hOz.out ?_); (case e1 => rfl); (case e2 => rfl); (case e3 => rfl); (case e4 => rfl); rw [hpz.out]))
      clear hz hpz hnz
      generalize wr.alloc (.cells Z32 69) = W9 at *
      generalize wr.heap.size = g9 at *
      go_loopw [15] (fun i wr => ∃ k : Nat, k ≤ 32 ∧ i = .int .i64 (k : Int) ∧ BRow wr g9 69 (dpre s k) ∧ Row wr (w.heap.size + 1) 90 s.list ∧ BRow wr w.heap.size 69 (List.replicate 32 0) ∧ Below w.heap.size w wr) (fun i _ => 32 - (intOf i).toNat)
      case atStart => exact ⟨0, by omega, rfl, F1.out, F2.out, F3.out, F4.out⟩
      case round =>
        clear F1 F2 F3 F4
        obtain ⟨k, hk, rfl, hr9, hrS, hbr, hbel⟩ := hrel
        by_cases hkl : k < 32
        · have hq := hrS.cell (j := k / 4) (by show _ < 8; omega)
          have hf := hr9.frozen k
          obtain ⟨old, hold⟩ : ∃ old, wr.cell? ⟨g9, k, none⟩ = some old := ⟨_, hr9.cell (by rw [dpre_len s hk]; exact hkl)⟩
          have hxl : s.list.getD (k / 4) 0 < 4294967296 := by
            obtain ⟨h1, h2, h3, h4, h5, h6, h7, h8⟩ := hok
            refine SH.AllW.get (fun x hx => ?_) _
            simp only [SH.St.list, List.mem_cons, List.not_mem_nil, or_false] at hx
            rcases hx with rfl | rfl | rfl | rfl | rfl | rfl | rfl | rfl <;> assumption
          have HV := Lib.hid (dig_get s hkl)
          have HS := Lib.hid (hr9.set k ((SH.dig s).getD k 0))
          rw [dpre_next s hkl] at HS
          have HR0 := Lib.hid (hrS.other (a := ⟨g9, k, none⟩) (by simp only; omega) (.int .u8 ((SH.dig s).getD k 0)))
          have HR1 := Lib.hid (hbr.other (a := ⟨g9, k, none⟩) (by simp only; omega) (.int .u8 ((SH.dig s).getD k 0)))
          have HBE := Lib.hid (hbel.setCell (p := ⟨g9, k, none⟩) (by simp only; omega) (.int .u8 ((SH.dig s).getD k 0)))
          clear hr9 hrS hbr hbel
          generalize (SH.dig s).getD k 0 = v at *
          generalize s.list.getD (k / 4) 0 = x at *
          go_wp2_with fail
          go_loop [16, 17] (fun a i => ∃ t : Nat, t ≤ 3 - k % 4 ∧ i = .int .i64 ((k % 4 + t : Nat) : Int) ∧ a = .int .u32 ((x / 256 ^ t : Nat) : Int)) (fun _ i => 3 - (intOf i).toNat)
          case atStart => exact ⟨0, by omega, by go_num, by simp⟩
          case round =>
            obtain ⟨t, ht, rfl, rfl⟩ := hrel
            by_cases htl : t < 3 - k % 4
            · have HQ := Lib.hid (show ((x / 256 ^ t : Nat) : Int) / 256 = ((x / 256 ^ (t + 1) : Nat) : Int) by rw [Nat.pow_succ, ← Nat.div_div_eq_div_mul]; omega)
              have hle : x / 256 ^ t < 4294967296 := Nat.lt_of_le_of_lt (Nat.div_le_self _ _) hxl
              obtain ⟨d, hd⟩ : ∃ d, d = k % 4 + t := ⟨_, rfl⟩
              have hd3 : d < 3 := by omega
              rw [← hd]
              have HDD := Lib.hid hd
              clear hd
              generalize hX1 : x / 256 ^ (t + 1) = X1 at *
              generalize x / 256 ^ t = X0 at *
              go_wp2
              go_round
              case rel => exact ⟨t + 1, by omega, congrArg (Value.int .i64) (by have := HDD.out; omega), by rw [HQ.out, hX1]⟩
              case measure => simp [intOf]; omega
            · obtain rfl : t = 3 - k % 4 := by omega
              have h3 : k % 4 + (3 - k % 4) = 3 := by omega
              rw [h3]
              have hle : x / 256 ^ (3 - k % 4) < 4294967296 := Nat.lt_of_le_of_lt (Nat.div_le_self _ _) hxl
              generalize x / 256 ^ (3 - k % 4) = X3 at *
              clear h3
              go_wp2
              go_roundw
              case rel =>
                have hv2 : (X3 : Int) % 256 = v := by rw [HV.out]; omega
                rw [hv2]
                exact ⟨k + 1, by omega, by go_num, HS.out, HR0.out, HR1.out, HBE.out⟩
              case measure => simp [intOf]; omega
        · obtain rfl : k = 32 := by omega
          rw [dpre_all] at hr9
          have hdl := SH.dig_len s
          have hZT := Lib.hid (show (bvals (List.replicate 32 0)).size = (bvals (SH.dig s)).size by rw [bvals_size, bvals_size, hdl, List.length_replicate])
          have hput := Lib.hid (hbr.put (SH.dig s))
          have hbp := Lib.hid (below_setRow hbel (Nat.le_refl _) (bvals (SH.dig s)))
          have h18 := Lib.hid (bvals_one (SH.dig s))
          unfold BRow at hr9 hbr hput
          have Hr9 := Lib.hid hr9
          have Hr1 := Lib.hid hbr
          clear hr9 hrS hbr hbel hdl
          generalize bvals (SH.dig s) = R at *
          go_wp2_with (first | ((with_reducible refine wpList_load_row (o := ⟨some 170, .load 69 (.tmp 14), _, _, _, _⟩) ?e1 69 (.tmp 14) ?e2 g9 ?e3 69 R (0, 0) _ Hr9.out Tryd.underlying69 ?e4 hI.out ?_); (case e1 => rfl); (case e2 => rfl); (case e3 => rfl); (case e4 => rfl)) | ((with_reducible refine wpList_store_row (o := ⟨none, .store 69 (.tmp 2) (.tmp 170), _, _, _, _⟩) ?e1 69 (.tmp 2) (.tmp 170) ?e2 w.heap.size R ?e3 ?e4 69 _ Hr1.out hI.out hZT.out h18.out ?_); (case e1 => rfl); (case e2 => rfl); (case e3 => rfl); (case e4 => rfl)))
          exact bodyPost_ret (v := .agg R) (by exact results_cell_row Tryd.results70 _ _ w.heap.size 69 R (0, 0) _ rfl hput.out Tryd.underlying69 rfl hI.out) (by rfl) (HP.out _ _ rfl hbp.out)
end Go.Proofs.YtonbhcbkelmhgaaDoor
