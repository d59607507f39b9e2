import Derived.Test.YtnlhkpmgbpfjmaaGreatDoorQc0
import Derived.Test.YtnlhkpmgbpfjmaaGreatDoorQc18
import Derived.Lib.OwnBridge
import Derived.Test.YtnlhkpmgbpfjmaaGreatDoorQc14
import Derived.Test.YtnlhkpmgbpfjmaaGreatDoorQc17
import Derived.Test.YtnlhkpmgbpfjmaaGreatDoorQc13
import Derived.Test.YtnlhkpmgbpfjmaaGreatDoorQc1
/-
  What the functions that a law of this layer reaches answer, part 19. Nothing that was there is written.
-/
namespace Go.Proofs.YtnlhkpmgbpfjmaaGreatDoor
set_option linter.unusedVariables false
set_option linter.unusedSimpArgs false
section
open Go.RowKit Go.Shelf WM
set_option maxRecDepth 100000
theorem below_grown {B : Nat} {w w1 : World} (h : Below B w w1) (os : Array Obj) (hB : B ≤ w1.heap.size) : Below B w (Go.Sort.grow w1 os) :=
 h.trans ⟨rfl, rfl, rfl, by rw [Go.Sort.size_grow]; exact Nat.le_add_right _ _, fun k hk => by
  show (w1.heap ++ os)[k]? = w1.heap[k]?
  rw [Array.getElem?_append_left (by omega)]⟩
theorem below_sorted {B : Nat} {w w1 : World} {g n : Nat} {d : Array XR} {os : Array Obj} (h : Below B w w1) (hg : B ≤ g) (hB : B ≤ w1.heap.size) : Below B w (sortWorldK encR 19 w1 g 0 n d os) := by
 unfold sortWorldK Go.Sort.putRowK
 exact below_grown (Lib.below_putRow h hg) os (by rw [Go.Sort.size_putRow]; exact hB)
theorem holds_own {w : World} {base g cap : Nat} {ys : List XR} (h : w.ownsRow base 36 19 (.slice (some ⟨g, 0, none⟩) ys.length cap) ys.length ((ys.map (·.1)).flatMap RcA.cs)) : Go.Sort.HoldsK encR 19 w g 0 ys.toArray ∧ g < w.heap.size ∧ base ≤ g ∧ ys.length ≤ cap ∧ cap ≤ maxLen := by
 rcases h.2 with ⟨h1, _⟩ | ⟨g', cap', cur, h1, hb, hg, hn, hm, hs, ht⟩
 ·cases h1
 ·simp only [Value.slice.injEq, Option.some.injEq, Addr.mk.injEq, and_true, true_and] at h1
  obtain ⟨rfl, rfl⟩ := h1
  refine ⟨fun t htl => ?_, (Array.getElem?_eq_some_iff.1 hg).1, hb, hn, hm⟩
  rw [Go.Sort.size_flatK] at htl
  have hlen : ys.toArray.size = ys.length := by simp
  rw [hlen] at htl
  have hi : t / 19 < ys.length := by omega
  have hz : ∀ x ∈ ys.map (·.1), x.R.z.length = 16 := fun x hx => by obtain ⟨y, _, rfl⟩ := List.mem_map.1 hx; exact y.2.1
  refine ⟨?_, frozen_of_row _ _ _ _ _ hg⟩
  rw [Nat.zero_add, cell_of_row w g _ cur _ (0, 0) hg]
  have h2 : ((ys.map (·.1)).flatMap RcA.cs)[t]? = ((ys.map (·.1)).getD (t / 19) rcA0).cs[t % 19]? := by
   rw [← recs_at hz (by rw [List.length_map]; exact hi) (Nat.mod_lt _ (by omega))]
   congr 1
   omega
  have h3 : cur[t]? = ((ys.map (·.1)).getD (t / 19) rcA0).cs[t % 19]? := by
   rw [← h2, ← ht, List.getElem?_take, if_pos (by omega)]
   simp
  rw [h3, Go.Sort.get_flatK _ _ _ _ (by rw [hlen]; omega)]
  have h4 : (ys.map (·.1)).getD (t / 19) rcA0 = (ys.toArray[t / 19]!).1 := by
   simp [List.getD, hi]
  rw [h4]
  have hcl : t % 19 < (encR ys.toArray[t / 19]!).length := by
   rw [show (encR ys.toArray[t / 19]!).length = 19 from cs_len (ys.toArray[t / 19]!).2.1]
   exact Nat.mod_lt _ (by omega)
  show (encR ys.toArray[t / 19]!)[t % 19]? = some (encR ys.toArray[t / 19]!)[t % 19]!
  rw [List.getElem?_eq_getElem hcl, List.getElem!_eq_getElem?_getD, List.getElem?_eq_getElem hcl]
  rfl
theorem own_slice2 {W : World} {base k : Nat} {v : Value} {xs : List Value} (h : W.ownsRow base 36 19 v k xs) : (v = .slice none 0 0 ∧ k = 0) ∨ ∃ g c, v = .slice (some ⟨g, 0, none⟩) k c := by
 rcases h.2 with ⟨rfl, rfl⟩ | ⟨g, cap, cur, rfl, _⟩
 ·exact .inl ⟨rfl, rfl⟩
 ·exact .inr ⟨g, cap, rfl⟩
theorem rise_of {d d' : Array XR} (hn : (d.toList.map (·.1.R.z)).Nodup) (hp : Go.Sort.PermIn 0 d.size d d') (hs : Go.Sort.SortedIn (ltOf cfR) 0 d.size d') : d'.size = d.size ∧ d'.toList.Perm d.toList ∧ Rise (d'.toList.map (·.1.R)) := by
 obtain ⟨h1, _, h3⟩ := hp
 have h4 : d'.toList.Perm d.toList := by
  have e1 : d'.extract 0 d.size = d' := by rw [← h1]; simp
  have e2 : d.extract 0 d.size = d := by simp
  rw [e1, e2] at h3
  exact h3
 refine ⟨h1, h4, ?_⟩
 have hn' : (d'.toList.map (·.1.R.z)).Nodup := (h4.map _).nodup_iff.2 hn
 unfold Rise
 rw [List.pairwise_map, List.pairwise_iff_getElem]
 intro i j hi hj hij
 have hi' : i < d'.size := by simpa using hi
 have hj' : j < d'.size := by simpa using hj
 have h5 := hs i j (Nat.zero_le _) hij (by omega)
 rw [getElem!_pos d' i hi', getElem!_pos d' j hj', ltR] at h5
 have hne : d'[i].1.R.z ≠ d'[j].1.R.z := fun e => by
  unfold List.Nodup at hn'
  rw [List.pairwise_map, List.pairwise_iff_getElem] at hn'
  exact hn' i j hi hj hij (by simpa using e)
 simp only [Array.getElem_toList]
 rcases il_tri d'[i].1.R.z d'[j].1.R.z with h | h | h
 ·exact h
 ·exact absurd h hne
 ·rw [h] at h5; cases h5
theorem rs_of_holds {w : World} {g cap : Nat} {d : Array XR} (h : Go.Sort.HoldsK encR 19 w g 0 d) (hg : g < w.heap.size) (hc : d.size ≤ cap) (hm : cap ≤ maxLen) (hv : ∀ x ∈ d.toList, RvAt w x.1) :
  RsAt w (some ⟨g, 0, none⟩) cap (d.toList.map (·.1)) := by
 refine ⟨by simpa using hc, hm, (fun e => by cases e), fun _ => ⟨g, 0, rfl, hg, fun i hi => ?_⟩, fun x hx => ?_⟩
 ·have hi' : i < d.size := by simpa using hi
  have e1 : (d.toList.map (·.1)).getD i rcA0 = (d[i]!).1 := by
   rw [getElem!_pos d i hi']
   simp [List.getD, hi']
  rw [e1]
  refine ⟨(d[i]!).2.1, fun j hj => ?_⟩
  have h2 := (h.cell hi' hj).1
  rw [h2]
  have hcl : j < (encR d[i]!).length := by rw [show (encR d[i]!).length = 19 from cs_len (d[i]!).2.1]; exact hj
  rw [List.getElem!_eq_getElem?_getD, List.getElem?_eq_getElem hcl]
  show _ = (encR d[i]!)[j]?
  rw [List.getElem?_eq_getElem hcl]
  rfl
 ·obtain ⟨y, hy, rfl⟩ := List.mem_map.1 hx
  exact hv y hy
def RisingPost (w : World) (es : List RcA) (e : Ending) (w' : World) : Prop :=
 ∃ (A : Option Addr) (n c : Nat) (ys : List RcA), e = .returned (.slice A n c) ∧ ys.length = n ∧ RsAt w' A c ys ∧ (ys.map (·.R)).Perm (es.map (·.R)) ∧ Rise (ys.map (·.R)) ∧ Below w.heap.size w w'
set_option maxHeartbeats 2000000 in
theorem sortedFunc_any (Bx bm nn : Nat) (es : List RcA) (w : World) (hBx : BoxR w Bx bm) (hM : MRs w bm nn es) (hlen : es.length ≤ 10) :
  Calls Tryz.prog 84 #[.func (.func 114) #[] #[.pointer (some ⟨Bx, 0, none⟩)], .func (.func 86) #[] #[]] w (RisingPost w es) := by
 have HC := Lib.hid (collect_any Bx bm nn es w hBx hM (by omega))
 have HK := Lib.hid hM.keys
 have HR := Lib.hid hM.rv
 clear hBx hM
 go_enter Tryz.func84, Tryz.ntmps84
 go_wp2_with fail
 refine HC.out.mono ?_
 rintro e w1 ⟨v, ys, rfl, hp, hok, ho, hb⟩
 have hlen2 : ys.length ≤ 10 := by rw [hp.length_eq]; exact hlen
 have hky : (ys.map (·.R.z)).Nodup := (hp.map _).nodup_iff.2 HK.out
 rcases own_slice2 ho with ⟨rfl, hn⟩ | ⟨g, cap, rfl⟩
 ·have hy : ys = [] := List.eq_nil_of_length_eq_zero hn
  subst hy
  have hes : es = [] := List.eq_nil_of_length_eq_zero (by rw [← hp.length_eq]; rfl)
  subst hes
  have HS := Lib.hid (sortFunc_any none 0 0 (.func (.func 86) #[] #[]) w1 (by omega) (fun e w' => w' = w1) ((ins_none w1 _).mono fun e w' h => h))
  have HB := Lib.hid hb
  clear hp hok ho hb hky hn hlen2
  go_wp2_with fail
  refine HS.out.mono ?_
  rintro e w2 ⟨rfl, rfl⟩
  go_wp2
  go_ret
  exact ⟨none, 0, 0, [], rfl, rfl, RsAt.nil _ _ _ (by decide) (fun _ => rfl), List.Perm.refl _, List.Pairwise.nil, HB.out⟩
 ·have hxs := named_fst ys hok
  generalize named ys hok = xs at hxs
  subst hxs
  rw [List.length_map] at ho hlen2 ⊢
  obtain ⟨hH, hg, hbg, hnc, hcm⟩ := holds_own ho
  have hsz : xs.toArray.size = xs.length := by simp
  have HI := ins_any g cap xs.toArray w1 hH hg (by rw [hsz]; exact hlen2)
  rw [hsz] at HI
  have HS := Lib.hid (sortFunc_any (some ⟨g, 0, none⟩) xs.length cap (.func (.func 86) #[] #[]) w1 hlen2 (SortPost w1 g xs.toArray) (HI.mono fun e w' h => ⟨h.1, h⟩))
  have FIN : Hid (∀ e w2, SortPost w1 g xs.toArray e w2 → RisingPost w es (.returned (.slice (some ⟨g, 0, none⟩) xs.length cap)) w2) := Lib.hid fun e w2 ⟨_, d', n, os, hpm, hst, hw⟩ => by
   obtain ⟨k1, k2, k3⟩ := rise_of (by simpa [Function.comp_def] using hky) hpm hst
   have hB2 : Below w.heap.size w w2 := by rw [hw]; exact below_sorted hb hbg hb.size
   have hH2 : Go.Sort.HoldsK encR 19 w2 g 0 d' := by rw [hw]; exact holdsK_sortWorldK_c encR 19 w1 g 0 xs.toArray d' n os hH hg k1
   have hg2 : g < w2.heap.size := by rw [hw]; exact Nat.lt_of_lt_of_le hg (size_sortWorldK_c encR 19 w1 g 0 n d' os)
   have hp2 : (d'.toList.map (·.1)).Perm es := (k2.map _).trans (by simpa using hp)
   refine ⟨_, _, _, d'.toList.map (·.1), rfl, by simp [k1], ?_, hp2.map _, by rw [List.map_map]; exact k3, hB2⟩
   refine rs_of_holds hH2 hg2 (by rw [k1, hsz]; exact hnc) hcm fun x hx => ?_
   exact (HR.out x.1 (hp2.mem_iff.1 (List.mem_map_of_mem hx))).below hB2 (Nat.le_refl _)
  clear hp hok ho hb hky hH HI hsz hbg hg
  go_wp2_with fail
  refine HS.out.mono ?_
  rintro e w2 ⟨rfl, h2⟩
  have HF := Lib.hid (FIN.out _ _ h2)
  clear h2
  go_wp2
  go_ret
  exact HF.out
set_option maxHeartbeats 1000000 in
theorem brising_any (bm nn : Nat) (es : List RcA) (w : World) (hM : MRs w bm nn es) (hlen : es.length ≤ 10) :
  Calls Tryz.prog 54 #[.map (some bm)] w (RisingPost w es) := by
 have hb := (Below.refl w.heap.size w).alloc (Nat.le_refl _) (.cells #[.map (some bm)] 84)
 have HS := Lib.hid (sortedFunc_any w.heap.size bm nn es (w.alloc (.cells #[.map (some bm)] 84)) (heap_alloc_new w _) (hM.below hb (Nat.le_refl _)) hlen)
 have HB := Lib.hid hb
 clear hM hb
 go_enter Tryz.func54, Tryz.ntmps54
 go_wp2_with fail
 refine (values_any bm w).mono ?_
 rintro e w1 ⟨rfl, rfl⟩
 go_wp2_with fail
 refine HS.out.mono ?_
 rintro e w2 ⟨A, n, c, ys, rfl, h1, h2, h3, h4, h5⟩
 have FIN : Hid (RisingPost w es (.returned (.slice A n c)) w2) := Lib.hid ⟨A, n, c, ys, rfl, h1, h2, h3, h4, HB.out.trans (h5.mono HB.out.size)⟩
 clear h1 h2 h3 h4 h5
 go_wp2
 go_ret
 exact FIN.out
end
section
open Go.RowKit WM
set_option maxRecDepth 100000
theorem built_book (A : Option Addr) (l c : Nat) : Tryz.prog.built 24 [(0, .slice A l c)] = some #[.slice A l c] := by kernel_rfl
theorem built_book0 : Tryz.prog.built 24 [] = some #[.slice none 0 0] := by kernel_rfl
theorem build_book (A : Option Addr) (l c : Nat) (w : World) : (Instr.build 24 #[(0, .slice A l c)]).run Tryz.prog w = .ok (.agg #[.slice A l c]) w := run_build w _ _ _ (built_book A l c)
theorem build_book0 (w : World) : (Instr.build 24 #[]).run Tryz.prog w = .ok (.agg #[.slice none 0 0]) w := run_build w _ _ _ built_book0
theorem wpList_len_rs {w : World} {ops : Array Oper} {rest : List Oper} {o : Oper} {a : Act} {Q : Exit → Act → World → Prop} {b n : Nat} {es : List RcA} (hgd : o.guard = none) (m : Operand) (hop : o.op = .call { callee := .builtin .len, args := #[m], argTypes := #[84] })
  (hm : a.eval m = .map (some b)) (h : MRs w b n es) (hK : wpList Tryz.prog ops Q rest (a.put o.dst (.int .i64 es.length)) w) : wpList Tryz.prog ops Q (o :: rest) a w := by
 obtain ⟨D, h1, h2, _⟩ := h
 refine wpList_len_own _ hgd m _ hop 31 36 Tryz.underlying84 heldR b n D hm h1 ?_
 rw [h2]
 exact hK
def BJoinPost (w : World) (r : Int × List Rc) (e : Ending) (w' : World) : Prop := ∃ d : Bk, e = .returned (.tuple #[.agg #[.slice d.A d.xs.length d.c], .int .i64 r.1]) ∧ d.rs = r.2 ∧ BkAt w' d ∧ Below w.heap.size w w'
set_option maxHeartbeats 8000000 in
theorem bjoin_any (a b : Bk) (w : World) (hlaid : Laid w) (h1 : BkAt w a) (h2 : BkAt w b) :
  Calls Tryz.prog 22 #[.agg #[.slice a.A a.xs.length a.c], .agg #[.slice b.A b.xs.length b.c]] w (BJoinPost w (bjE a.rs b.rs)) := by
 have HLA := Lib.hid (fun (X : World) (hX : Below w.heap.size w X) => hlaid.below hX (Nat.le_refl _))
 have s0 := ((BoAt.new w (.slice a.A a.xs.length a.c)).old (.cells #[.slice b.A b.xs.length b.c] 24)).old (.cells #[.slice none 0 0] 24)
 have s1 := (BoAt.new (w.alloc (.cells #[.slice a.A a.xs.length a.c] 24)) (.slice b.A b.xs.length b.c)).old (.cells #[.slice none 0 0] 24)
 rw [World.size_alloc] at s1
 have s2 := BoAt.new ((w.alloc (.cells #[.slice a.A a.xs.length a.c] 24)).alloc (.cells #[.slice b.A b.xs.length b.c] 24)) (.slice none 0 0)
 rw [World.size_alloc, World.size_alloc] at s2
 have S0 := Lib.hid s0
 have S1 := Lib.hid s1
 have S2 := Lib.hid s2
 have HB := Lib.hid ((((Below.refl w.heap.size w).alloc (Nat.le_refl _) (.cells #[.slice a.A a.xs.length a.c] 24)).alloc (by simp) (.cells #[.slice b.A b.xs.length b.c] 24)).alloc (by simp; omega) (.cells #[.slice none 0 0] 24))
 have LA := Lib.hid S0.out.load
 have HM1 := Lib.hid (bmay_any a _ (h1.below HB.out (Nat.le_refl _)))
 have H1 := Lib.hid h1
 have H2 := Lib.hid h2
 have hz : ∀ w : World, (zeroValue 24).run Tryz.prog w = .ok (.agg #[.slice none 0 0]) w := zeroBook
 have hb0 := build_book0
 have hb1 := build_book
 clear s0 s1 s2 h1 h2
 cases ma : bmay a.rs
 ·have HE := Lib.hid (bjE_no (a := a.rs) (b := b.rs) (by rw [ma]; rfl))
  rw [ma] at HM1
  clear ma
  go_enter Tryz.func22, Tryz.ntmps22
  go_wp2_with (first | ((with_reducible refine wpList_load_by (o := ⟨some 7, .load 24 (.tmp 2), _, _, _, _⟩) ?e1 24 (.tmp 2) ?e2 ⟨w.heap.size, 0, none⟩ ?e3 _ LA.out ?_); (case e1 => rfl); (case e2 => rfl); (case e3 => rfl)))
  refine HM1.out.mono ?_
  rintro e w1 ⟨rfl, hb⟩
  have T0 := Lib.hid (S0.out.below hb S0.out.lt)
  have T1 := Lib.hid (S1.out.below hb S1.out.lt)
  have T2 := Lib.hid (S2.out.below hb S2.out.lt)
  have B1 := Lib.hid (HB.out.trans (hb.mono HB.out.size))
  clear hb
  go_wp2_with (first | ((with_reducible refine wpList_store_oldb (o := ⟨none, .store 24 (.tmp 4) (.tmp 15), _, _, _, _⟩) ?e1 (.tmp 4) (.tmp 15) ?e2 (w.heap.size + 1 + 1) _ T2.out ?e3 (.slice none 0 0) ?e4 ?e5 ?_); (case e1 => rfl); (case e2 => rfl); (case e3 => rfl); (case e4 => rfl); (case e5 => rfl); intro w2 hg2 hx2; have G9 := Lib.hid hg2; have X9 := Lib.hid hx2; clear hg2 hx2))
  refine bodyPost_ret (v := .tuple #[.agg #[.slice none 0 0], .int .i64 1]) ?_ rfl ?_
  ·exact res_bk2 Tryz.results22 rfl X9.out
  ·rw [HE.out]
   exact ⟨bk0, rfl, rfl, BkAt.zero _, B1.out.grown G9.out B1.out.size (fun k e => by have := Option.some.inj e; omega)⟩
 ·rw [ma] at HM1
  cases mb : bmay b.rs
  ·have HE := Lib.hid (bjE_no (a := a.rs) (b := b.rs) (by rw [mb, Bool.and_false]))
   have MB := Lib.hid mb
   clear ma mb
   go_enter Tryz.func22, Tryz.ntmps22
   go_wp2_with (first | ((with_reducible refine wpList_load_by (o := ⟨some 7, .load 24 (.tmp 2), _, _, _, _⟩) ?e1 24 (.tmp 2) ?e2 ⟨w.heap.size, 0, none⟩ ?e3 _ LA.out ?_); (case e1 => rfl); (case e2 => rfl); (case e3 => rfl)))
   refine HM1.out.mono ?_
   rintro e w1 ⟨rfl, hb⟩
   have T0 := Lib.hid (S0.out.below hb S0.out.lt)
   have T1 := Lib.hid (S1.out.below hb S1.out.lt)
   have T2 := Lib.hid (S2.out.below hb S2.out.lt)
   have B1 := Lib.hid (HB.out.trans (hb.mono HB.out.size))
   clear hb
   have LB := Lib.hid T1.out.load
   have HM2 := Lib.hid (bmay_any b w1 (H2.out.below B1.out (Nat.le_refl _)))
   rw [MB.out] at HM2
   go_wp2_with (first | ((with_reducible refine wpList_load_by (o := ⟨some 11, .load 24 (.tmp 3), _, _, _, _⟩) ?e1 24 (.tmp 3) ?e2 ⟨(w.heap.size + 1), 0, none⟩ ?e3 _ LB.out ?_); (case e1 => rfl); (case e2 => rfl); (case e3 => rfl)))
   refine HM2.out.mono ?_
   rintro e w2 ⟨rfl, hb⟩
   have U0 := Lib.hid (T0.out.below hb T0.out.lt)
   have U1 := Lib.hid (T1.out.below hb T1.out.lt)
   have U2 := Lib.hid (T2.out.below hb T2.out.lt)
   have B2 := Lib.hid (B1.out.trans (hb.mono B1.out.size))
   clear hb
   go_wp2_with (first | ((with_reducible refine wpList_store_oldb (o := ⟨none, .store 24 (.tmp 4) (.tmp 15), _, _, _, _⟩) ?e1 (.tmp 4) (.tmp 15) ?e2 (w.heap.size + 1 + 1) _ U2.out ?e3 (.slice none 0 0) ?e4 ?e5 ?_); (case e1 => rfl); (case e2 => rfl); (case e3 => rfl); (case e4 => rfl); (case e5 => rfl); intro w2 hg2 hx2; have G9 := Lib.hid hg2; have X9 := Lib.hid hx2; clear hg2 hx2))
   refine bodyPost_ret (v := .tuple #[.agg #[.slice none 0 0], .int .i64 1]) ?_ rfl ?_
   ·exact res_bk2 Tryz.results22 rfl X9.out
   ·rw [HE.out]
    exact ⟨bk0, rfl, rfl, BkAt.zero _, B2.out.grown G9.out B2.out.size (fun k e => by have := Option.some.inj e; omega)⟩
  ·have MA := Lib.hid (bmay_iff.1 ma)
   have MB2 := Lib.hid (bmay_iff.1 mb)
   have MB := Lib.hid mb
   have HLE := Lib.hid (fun hl : 10 < (bjoin a.rs b.rs).length => bjE_large ma mb hl)
   have HYE := Lib.hid (fun hl : (bjoin a.rs b.rs).length ≤ 10 => bjE_yes ma mb hl)
   have la : a.xs.length ≤ 10 := by have := MA.out.1; unfold Bk.rs at this; rwa [List.length_map] at this
   have lb : b.xs.length ≤ 10 := by have := MB2.out.1; unfold Bk.rs at this; rwa [List.length_map] at this
   clear ma mb
   go_enter Tryz.func22, Tryz.ntmps22
   go_wp2_with (first | ((with_reducible refine wpList_load_by (o := ⟨some 7, .load 24 (.tmp 2), _, _, _, _⟩) ?e1 24 (.tmp 2) ?e2 ⟨w.heap.size, 0, none⟩ ?e3 _ LA.out ?_); (case e1 => rfl); (case e2 => rfl); (case e3 => rfl)))
   refine HM1.out.mono ?_
   rintro e w1 ⟨rfl, hb⟩
   have T0 := Lib.hid (S0.out.below hb S0.out.lt)
   have T1 := Lib.hid (S1.out.below hb S1.out.lt)
   have T2 := Lib.hid (S2.out.below hb S2.out.lt)
   have B1 := Lib.hid (HB.out.trans (hb.mono HB.out.size))
   clear hb
   have LB := Lib.hid T1.out.load
   have HM2 := Lib.hid (bmay_any b w1 (H2.out.below B1.out (Nat.le_refl _)))
   rw [MB.out] at HM2
   go_wp2_with (first | ((with_reducible refine wpList_load_by (o := ⟨some 11, .load 24 (.tmp 3), _, _, _, _⟩) ?e1 24 (.tmp 3) ?e2 ⟨(w.heap.size + 1), 0, none⟩ ?e3 _ LB.out ?_); (case e1 => rfl); (case e2 => rfl); (case e3 => rfl)))
   refine HM2.out.mono ?_
   rintro e w2 ⟨rfl, hb⟩
   have U0 := Lib.hid (T0.out.below hb T0.out.lt)
   have U1 := Lib.hid (T1.out.below hb T1.out.lt)
   have U2 := Lib.hid (T2.out.below hb T2.out.lt)
   have B2 := Lib.hid (B1.out.trans (hb.mono B1.out.size))
   clear hb
   have u0 := U0.out.c0
   have u1 := U1.out.c0
   have BA := (Below.refl w2.heap.size w2).alloc (Nat.le_refl _) (.cells #[.slice a.A a.xs.length a.c, .slice b.A b.xs.length b.c] 22)
   have HBA := Lib.hid (B2.out.trans (BA.mono B2.out.size))
   have hA := heap_alloc_new w2 (.cells #[.slice a.A a.xs.length a.c, .slice b.A b.xs.length b.c] 22)
   have hA0 : (w2.alloc (.cells #[.slice a.A a.xs.length a.c, .slice b.A b.xs.length b.c] 22)).cell? ⟨w2.heap.size, 0, none⟩ = some (.slice a.A a.xs.length a.c) := by rw [cell_of_row _ _ _ _ _ _ hA]; rfl
   have hA1 : (w2.alloc (.cells #[.slice a.A a.xs.length a.c, .slice b.A b.xs.length b.c] 22)).cell? ⟨w2.heap.size, 1, none⟩ = some (.slice b.A b.xs.length b.c) := by rw [cell_of_row _ _ _ _ _ _ hA]; rfl
   have HCC := Lib.hid (bconcat_any w2.heap.size a.A b.A a.xs.length b.xs.length a.c b.c a.xs b.xs _ (by rw [World.size_alloc]; omega) hA0 hA1 rfl rfl (H1.out.below HBA.out (Nat.le_refl _)) (H2.out.below HBA.out (Nat.le_refl _)) (by omega))
   unfold ConcatPostB at HCC
   have V2A := Lib.hid (U2.out.below BA U2.out.lt)
   clear BA hA hA0 hA1
   go_wp2_with fail
   refine HCC.out.mono ?_
   rintro e w3 ⟨A3, n3, c3, rfl, hn3, hr3, hb⟩
   have B3 := Lib.hid (HBA.out.trans (hb.mono HBA.out.size))
   have V3 := Lib.hid (V2A.out.below hb V2A.out.lt)
   have HG := Lib.hid (bgather_any A3 n3 c3 (a.xs ++ b.xs) w3 (HLA.out _ B3.out) hn3 (by rw [← hn3, List.length_append]; omega) hr3 (fun x hx => by
    rcases List.mem_append.1 hx with hx | hx
    ·exact MA.out.2.1 _ (List.mem_map_of_mem hx)
    ·exact MB2.out.2.1 _ (List.mem_map_of_mem hx)))
   unfold BGatherPost at HG
   clear hb hr3 u0 u1
   go_wp2_with fail
   refine HG.out.mono ?_
   rintro e w4 ⟨bm, nn, es, rfl, hbm, hM, heq, hb⟩
   have B4 := Lib.hid (B3.out.trans (hb.mono B3.out.size))
   have V4 := Lib.hid (V3.out.below hb V3.out.lt)
   have HM4 := Lib.hid hM
   have HEQ : Hid (es.map (·.R) = (a.rs ++ b.rs).foldl mput []) := Lib.hid (by rw [heq, List.map_append]; rfl)
   have HK4 : Hid (∀ ys : List Rc, ys.Perm (es.map (·.R)) → Rise ys → ys = bjoin a.rs b.rs) := Lib.hid fun ys hp hr => sorted_join (by rw [← HEQ.out]; exact hp) hr
   have HLN : Hid (es.length = (bjoin a.rs b.rs).length) := Lib.hid (by
    have hk : Keys1 (es.map (·.R)) := by rw [HEQ.out]; exact mfold_keys _ _ List.nodup_nil
    obtain ⟨ys, hp, hr⟩ := sortable (es.map (·.R)) hk
    rw [← HK4.out ys hp hr, hp.length_eq, List.length_map])
   have HR5 := Lib.hid (brising_any bm nn es w4 hM)
   clear hb hM heq hbm
   by_cases hl : es.length ≤ 10
   ·have t1 : ¬ 10 < (es.length : Int) := by omega
    have HE := Lib.hid (HYE.out (by rw [← HLN.out]; exact hl))
    have HR := Lib.hid (HR5.out hl)
    unfold RisingPost at HR
    clear hl
    go_wp2_with (first | ((with_reducible refine wpList_len_rs (o := ⟨some 24, .call { callee := .builtin .len, args := #[.tmp 23], argTypes := #[84] }, _, _, _, _⟩) ?e1 (.tmp 23) ?e2 ?e3 HM4.out ?_); (case e1 => rfl); (case e2 => rfl); (case e3 => rfl)))
    refine HR.out.mono ?_
    rintro e w5 ⟨A5, n5, c5, ys, rfl, hn5, hr5, hp5, hs5, hb⟩
    have B5 := Lib.hid (B4.out.trans (hb.mono B4.out.size))
    have V5 := Lib.hid (V4.out.below hb V4.out.lt)
    have HD : Hid (BkAt w5 ⟨ys, A5, c5⟩) := Lib.hid hr5
    have HYS := Lib.hid (HK4.out _ hp5 hs5)
    have HN5 := Lib.hid hn5
    clear hb hr5 hp5 hs5 hn5
    go_wp2_with (first | ((with_reducible refine wpList_store_oldb (o := ⟨none, .store 24 (.tmp 4) (.tmp 29), _, _, _, _⟩) ?e1 (.tmp 4) (.tmp 29) ?e2 (w.heap.size + 1 + 1) _ V5.out ?e3 (.slice A5 n5 c5) ?e4 ?e5 ?_); (case e1 => rfl); (case e2 => rfl); (case e3 => rfl); (case e4 => rfl); (case e5 => rfl); intro w2 hg2 hx2; have G9 := Lib.hid hg2; have X9 := Lib.hid hx2; clear hg2 hx2))
    refine bodyPost_ret (v := .tuple #[.agg #[.slice A5 n5 c5], .int .i64 0]) ?_ rfl ?_
    ·exact res_bk2 Tryz.results22 rfl X9.out
    ·rw [HE.out]
     refine ⟨⟨ys, A5, c5⟩, by rw [← HN5.out], HYS.out, HD.out.kept_bo G9.out V5.out, B5.out.grown G9.out B5.out.size (fun k e => by have := Option.some.inj e; omega)⟩
   ·have t1 : 10 < (es.length : Int) := by omega
    have HE := Lib.hid (HLE.out (by rw [← HLN.out]; omega))
    clear hl HR5
    go_wp2_with (first | ((with_reducible refine wpList_len_rs (o := ⟨some 24, .call { callee := .builtin .len, args := #[.tmp 23], argTypes := #[84] }, _, _, _, _⟩) ?e1 (.tmp 23) ?e2 ?e3 HM4.out ?_); (case e1 => rfl); (case e2 => rfl); (case e3 => rfl)) | ((with_reducible refine wpList_store_oldb (o := ⟨none, .store 24 (.tmp 4) (.tmp 26), _, _, _, _⟩) ?e1 (.tmp 4) (.tmp 26) ?e2 (w.heap.size + 1 + 1) _ V4.out ?e3 (.slice none 0 0) ?e4 ?e5 ?_); (case e1 => rfl); (case e2 => rfl); (case e3 => rfl); (case e4 => rfl); (case e5 => rfl); intro w2 hg2 hx2; have G9 := Lib.hid hg2; have X9 := Lib.hid hx2; clear hg2 hx2))
    refine bodyPost_ret (v := .tuple #[.agg #[.slice none 0 0], .int .i64 4]) ?_ rfl ?_
    ·exact res_bk2 Tryz.results22 rfl X9.out
    ·rw [HE.out]
     exact ⟨bk0, rfl, rfl, BkAt.zero _, B4.out.grown G9.out B4.out.size (fun k e => by have := Option.some.inj e; omega)⟩
end
section
open Go.RowKit WM
def nxt (n r q : Int) : Int × Int × Int := if may n r && mayR q then (if n = 1099511627776 then (0, 0, 4) else (n + 1, q, 0)) else (0, 0, 1)
def nxtV (x : Int × Int × Int) : Value := .tuple #[st x.1 x.2.1, .int .i64 x.2.2]
set_option maxHeartbeats 1000000 in
theorem next_any (n r q : Int) (w : World) : Calls Tryz.prog 64 #[st n r, .int .i64 q] w fun e w' => e = .returned (nxtV (nxt n r q)) ∧ Below w.heap.size w w' := by
 have HC := Lib.hid (may_any n r)
 have HR := Lib.hid (mayRep_any q)
 have S0 := Lib.hid ((StAt.new w n r).old (.cells #[.int .i64 0, .int .i64 0] 33))
 have s1 := StAt.new (w.alloc (.cells #[.int .i64 n, .int .i64 r] 33)) 0 0
 rw [World.size_alloc] at s1
 have S1 := Lib.hid s1
 have HB := Lib.hid ((((Below.refl w.heap.size w).alloc (Nat.le_refl _) (.cells #[.int .i64 n, .int .i64 r] 33))).alloc (by simp) (.cells #[.int .i64 0, .int .i64 0] 33))
 clear s1
 cases hm : may n r
 ·have HN := Lib.hid (show nxt n r q = (0, 0, 1) by simp [nxt, hm])
  rw [hm] at HC
  unfold st at HC ⊢
  clear hm
  go_enter Tryz.func64, Tryz.ntmps64
  go_wp2_with fail
  refine (HC.out _).mono ?_
  rintro e w1 ⟨rfl, hb1⟩
  have s0 := S0.out.below hb1 S0.out.lt
  have s1 := S1.out.below hb1 S1.out.lt
  have bw := HB.out.trans (hb1.mono HB.out.size)
  have a0 := s0.c0
  have a1 := s0.c1
  have c0 := s1.c0
  have c1 := s1.c1
  have f0 := s1.fz 0
  have f1 := s1.fz 1
  have S9 := Lib.hid (s1.put 0 0)
  have B9 := Lib.hid (below_put bw (show w.heap.size ≤ w.heap.size + 1 by omega) (.int .i64 0) (.int .i64 0))
  clear s0 s1 hb1 bw
  go_wp2
  refine bodyPost_ret (v := nxtV (0, 0, 1)) ?_ rfl ⟨by rw [HN.out], ?_⟩
  ·exact res_st2 Tryz.results64 rfl S9.out
  ·exact B9.out
 ·rw [hm] at HC
  have hmay := may_iff.1 hm
  cases hq : mayR q
  ·have HN := Lib.hid (show nxt n r q = (0, 0, 1) by simp [nxt, hq])
   rw [hq] at HR
   unfold st at HC ⊢
   clear hm hq
   go_enter Tryz.func64, Tryz.ntmps64
   go_wp2_with fail
   refine (HC.out _).mono ?_
   rintro e w1 ⟨rfl, hb1⟩
   have s0 := S0.out.below hb1 S0.out.lt
   have s1 := S1.out.below hb1 S1.out.lt
   have bw := HB.out.trans (hb1.mono HB.out.size)
   have a0 := s0.c0
   have a1 := s0.c1
   have c0 := s1.c0
   have c1 := s1.c1
   have f0 := s1.fz 0
   have f1 := s1.fz 1
   have S9 := Lib.hid (s1.put 0 0)
   have B9 := Lib.hid (below_put bw (show w.heap.size ≤ w.heap.size + 1 by omega) (.int .i64 0) (.int .i64 0))
   clear s0 s1 hb1 bw
   go_wp2_with fail
   refine (HR.out _).mono ?_
   rintro e w2 ⟨rfl, rfl⟩
   go_wp2
   refine bodyPost_ret (v := nxtV (0, 0, 1)) ?_ rfl ⟨by rw [HN.out], ?_⟩
   ·exact res_st2 Tryz.results64 rfl S9.out
   ·exact B9.out
  ·rw [hq] at HR
   by_cases h40 : n = 1099511627776
   ·subst h40
    have HN := Lib.hid (show nxt 1099511627776 r q = (0, 0, 4) by simp [nxt, hm, hq])
    unfold st at HC ⊢
    clear hm hq
    go_enter Tryz.func64, Tryz.ntmps64
    go_wp2_with fail
    refine (HC.out _).mono ?_
    rintro e w1 ⟨rfl, hb1⟩
    have s0 := S0.out.below hb1 S0.out.lt
    have s1 := S1.out.below hb1 S1.out.lt
    have bw := HB.out.trans (hb1.mono HB.out.size)
    have a0 := s0.c0
    have a1 := s0.c1
    have c0 := s1.c0
    have c1 := s1.c1
    have f0 := s1.fz 0
    have f1 := s1.fz 1
    have S9 := Lib.hid (s1.put 0 0)
    have B9 := Lib.hid (below_put bw (show w.heap.size ≤ w.heap.size + 1 by omega) (.int .i64 0) (.int .i64 0))
    clear s0 s1 hb1 bw
    go_wp2_with fail
    refine (HR.out _).mono ?_
    rintro e w2 ⟨rfl, rfl⟩
    go_wp2
    refine bodyPost_ret (v := nxtV (0, 0, 4)) ?_ rfl ⟨by rw [HN.out], ?_⟩
    ·exact res_st2 Tryz.results64 rfl S9.out
    ·exact B9.out
   ·have HN := Lib.hid (show nxt n r q = (n + 1, q, 0) by simp [nxt, hm, hq, h40])
    have hw : IntKind.i64.wrap (n + 1) = n + 1 := IntWalk.i64_in _ (by omega)
    unfold st at HC ⊢
    clear hm hq
    go_enter Tryz.func64, Tryz.ntmps64
    go_wp2_with fail
    refine (HC.out _).mono ?_
    rintro e w1 ⟨rfl, hb1⟩
    have s0 := S0.out.below hb1 S0.out.lt
    have s1 := S1.out.below hb1 S1.out.lt
    have bw := HB.out.trans (hb1.mono HB.out.size)
    have a0 := s0.c0
    have a1 := s0.c1
    have c0 := s1.c0
    have c1 := s1.c1
    have f0 := s1.fz 0
    have f1 := s1.fz 1
    have S9 := Lib.hid (s1.put (n + 1) q)
    have B9 := Lib.hid (below_put bw (show w.heap.size ≤ w.heap.size + 1 by omega) (.int .i64 (n + 1)) (.int .i64 q))
    clear s0 s1 hb1 bw
    go_wp2_with fail
    refine (HR.out _).mono ?_
    rintro e w2 ⟨rfl, rfl⟩
    go_wp2
    refine bodyPost_ret (v := nxtV (n + 1, q, 0)) ?_ rfl ⟨by rw [HN.out], ?_⟩
    ·exact res_st2 Tryz.results64 rfl S9.out
    ·exact B9.out
end
end Go.Proofs.YtnlhkpmgbpfjmaaGreatDoor
