import Derived.Test.YtcmknbdeafcknaaGreatDoorGBkVals
import Derived.Test.YtcmknbdeafcknaaGreatDoorBkColl
import Derived.Lib.OwnBridge
/-
  What slices.SortedFunc and book.rising answer: a map's records in a row of the call's own, by rising names.
-/
namespace Go.Proofs.YtcmknbdeafcknaaGreatDoor
open Go.RowKit Go.Shelf WM
set_option linter.unusedVariables false
set_option maxRecDepth 100000
theorem below_grown {B : Nat} {w w1 : World} (h : Below B w w1) (os : Array Obj) (hB : B ≤ w1.heap.size) : Below B w (Go.Sort.grow w1 os) :=
  h.trans ⟨rfl, rfl, rfl, by rw [Go.Sort.size_grow]; exact Nat.le_add_right _ _, fun k hk => by
    show (w1.heap ++ os)[k]? = w1.heap[k]?
    rw [Array.getElem?_append_left (by omega)]⟩
theorem below_sorted {B : Nat} {w w1 : World} {g n : Nat} {d : Array XR} {os : Array Obj} (h : Below B w w1) (hg : B ≤ g) (hB : B ≤ w1.heap.size) : Below B w (sortWorldK encR 19 w1 g 0 n d os) := by
  unfold sortWorldK Go.Sort.putRowK
  exact below_grown (Lib.below_putRow h hg) os (by rw [Go.Sort.size_putRow]; exact hB)
theorem holds_own {w : World} {base g cap : Nat} {ys : List XR} (h : w.ownsRow base 33 19 (.slice (some ⟨g, 0, none⟩) ys.length cap) ys.length ((ys.map (·.1)).flatMap RcA.cs)) : Go.Sort.HoldsK encR 19 w g 0 ys.toArray ∧ g < w.heap.size ∧ base ≤ g ∧ ys.length ≤ cap ∧ cap ≤ maxLen := by
  rcases h.2 with ⟨h1, _⟩ | ⟨g', cap', cur, h1, hb, hg, hn, hm, hs, ht⟩
  · cases h1
  · simp only [Value.slice.injEq, Option.some.injEq, Addr.mk.injEq, and_true, true_and] at h1
    obtain ⟨rfl, rfl⟩ := h1
    refine ⟨fun t htl => ?_, (Array.getElem?_eq_some_iff.1 hg).1, hb, hn, hm⟩
    rw [Go.Sort.size_flatK] at htl
    have hlen : ys.toArray.size = ys.length := by simp
    rw [hlen] at htl
    have hi : t / 19 < ys.length := by omega
    have hz : ∀ x ∈ ys.map (·.1), x.R.z.length = 16 := fun x hx => by obtain ⟨y, _, rfl⟩ := List.mem_map.1 hx; exact y.2.1
    refine ⟨?_, frozen_of_row _ _ _ _ _ hg⟩
    rw [Nat.zero_add, cell_of_row w g _ cur _ (0, 0) hg]
    have h2 : ((ys.map (·.1)).flatMap RcA.cs)[t]? = ((ys.map (·.1)).getD (t / 19) rcA0).cs[t % 19]? := by
      rw [← recs_at hz (by rw [List.length_map]; exact hi) (Nat.mod_lt _ (by omega))]
      congr 1
      omega
    have h3 : cur[t]? = ((ys.map (·.1)).getD (t / 19) rcA0).cs[t % 19]? := by
      rw [← h2, ← ht, List.getElem?_take, if_pos (by omega)]
      simp
    rw [h3, Go.Sort.get_flatK _ _ _ _ (by rw [hlen]; omega)]
    have h4 : (ys.map (·.1)).getD (t / 19) rcA0 = (ys.toArray[t / 19]!).1 := by
      simp [List.getD, hi]
    rw [h4]
    have hcl : t % 19 < (encR ys.toArray[t / 19]!).length := by
      rw [show (encR ys.toArray[t / 19]!).length = 19 from cs_len (ys.toArray[t / 19]!).2.1]
      exact Nat.mod_lt _ (by omega)
    show (encR ys.toArray[t / 19]!)[t % 19]? = some (encR ys.toArray[t / 19]!)[t % 19]!
    rw [List.getElem?_eq_getElem hcl, List.getElem!_eq_getElem?_getD, List.getElem?_eq_getElem hcl]
    rfl
theorem own_slice2 {W : World} {base k : Nat} {v : Value} {xs : List Value} (h : W.ownsRow base 33 19 v k xs) : (v = .slice none 0 0 ∧ k = 0) ∨ ∃ g c, v = .slice (some ⟨g, 0, none⟩) k c := by
  rcases h.2 with ⟨rfl, rfl⟩ | ⟨g, cap, cur, rfl, _⟩
  · exact .inl ⟨rfl, rfl⟩
  · exact .inr ⟨g, cap, rfl⟩
theorem rise_of {d d' : Array XR} (hn : (d.toList.map (·.1.R.z)).Nodup) (hp : Go.Sort.PermIn 0 d.size d d') (hs : Go.Sort.SortedIn (ltOf cfR) 0 d.size d') : d'.size = d.size ∧ d'.toList.Perm d.toList ∧ Rise (d'.toList.map (·.1.R)) := by
  obtain ⟨h1, _, h3⟩ := hp
  have h4 : d'.toList.Perm d.toList := by
    have e1 : d'.extract 0 d.size = d' := by rw [← h1]; simp
    have e2 : d.extract 0 d.size = d := by simp
    rw [e1, e2] at h3
    exact h3
  refine ⟨h1, h4, ?_⟩
  have hn' : (d'.toList.map (·.1.R.z)).Nodup := (h4.map _).nodup_iff.2 hn
  unfold Rise
  rw [List.pairwise_map, List.pairwise_iff_getElem]
  intro i j hi hj hij
  have hi' : i < d'.size := by simpa using hi
  have hj' : j < d'.size := by simpa using hj
  have h5 := hs i j (Nat.zero_le _) hij (by omega)
  rw [getElem!_pos d' i hi', getElem!_pos d' j hj', ltR] at h5
  have hne : d'[i].1.R.z ≠ d'[j].1.R.z := fun e => by
    unfold List.Nodup at hn'
    rw [List.pairwise_map, List.pairwise_iff_getElem] at hn'
    exact hn' i j hi hj hij (by simpa using e)
  simp only [Array.getElem_toList]
  rcases il_tri d'[i].1.R.z d'[j].1.R.z with h | h | h
  · exact h
  · exact absurd h hne
  · rw [h] at h5; cases h5
/-- What is held in the row, as a row of records. -/
theorem rs_of_holds {w : World} {g cap : Nat} {d : Array XR} (h : Go.Sort.HoldsK encR 19 w g 0 d) (hg : g < w.heap.size) (hc : d.size ≤ cap) (hm : cap ≤ maxLen) (hv : ∀ x ∈ d.toList, RvAt w x.1) :
    RsAt w (some ⟨g, 0, none⟩) cap (d.toList.map (·.1)) := by
  refine ⟨by simpa using hc, hm, (fun e => by cases e), fun _ => ⟨g, 0, rfl, hg, fun i hi => ?_⟩, fun x hx => ?_⟩
  · have hi' : i < d.size := by simpa using hi
    have e1 : (d.toList.map (·.1)).getD i rcA0 = (d[i]!).1 := by
      rw [getElem!_pos d i hi']
      simp [List.getD, hi']
    rw [e1]
    refine ⟨(d[i]!).2.1, fun j hj => ?_⟩
    have h2 := (h.cell hi' hj).1
    rw [h2]
    have hcl : j < (encR d[i]!).length := by rw [show (encR d[i]!).length = 19 from cs_len (d[i]!).2.1]; exact hj
    rw [List.getElem!_eq_getElem?_getD, List.getElem?_eq_getElem hcl]
    show _ = (encR d[i]!)[j]?
    rw [List.getElem?_eq_getElem hcl]
    rfl
  · obtain ⟨y, hy, rfl⟩ := List.mem_map.1 hx
    exact hv y hy
def RisingPost (w : World) (es : List RcA) (e : Ending) (w' : World) : Prop :=
  ∃ (A : Option Addr) (n c : Nat) (ys : List RcA), e = .returned (.slice A n c) ∧ ys.length = n ∧ RsAt w' A c ys ∧ (ys.map (·.R)).Perm (es.map (·.R)) ∧ Rise (ys.map (·.R)) ∧ Below w.heap.size w w'
set_option maxHeartbeats 2000000 in
theorem sortedFunc_any (Bx bm nn : Nat) (es : List RcA) (w : World) (hBx : BoxR w Bx bm) (hM : MRs w bm nn es) (hlen : es.length ≤ 10) :
    Calls Tryz.prog 76 #[.func (.func 113) #[] #[.pointer (some ⟨Bx, 0, none⟩)], .func (.func 78) #[] #[]] w (RisingPost w es) := by
  have HC := Lib.hid (collect_any Bx bm nn es w hBx hM (by omega))
  have HK := Lib.hid hM.keys
  have HR := Lib.hid hM.rv
  clear hBx hM
  go_enter Tryz.func76, Tryz.ntmps76
  go_wp2_with fail
  refine HC.out.mono ?_
  rintro e w1 ⟨v, ys, rfl, hp, hok, ho, hb⟩
  have hlen2 : ys.length ≤ 10 := by rw [hp.length_eq]; exact hlen
  have hky : (ys.map (·.R.z)).Nodup := (hp.map _).nodup_iff.2 HK.out
  rcases own_slice2 ho with ⟨rfl, hn⟩ | ⟨g, cap, rfl⟩
  · have hy : ys = [] := List.eq_nil_of_length_eq_zero hn
    subst hy
    have hes : es = [] := List.eq_nil_of_length_eq_zero (by rw [← hp.length_eq]; rfl)
    subst hes
    have HS := Lib.hid (sortFunc_any none 0 0 (.func (.func 78) #[] #[]) w1 (by omega) (fun e w' => w' = w1) ((ins_none w1 _).mono fun e w' h => h))
    have HB := Lib.hid hb
    clear hp hok ho hb hky hn hlen2
    go_wp2_with fail
    refine HS.out.mono ?_
    rintro e w2 ⟨rfl, rfl⟩
    go_wp2
    go_ret
    exact ⟨none, 0, 0, [], rfl, rfl, RsAt.nil _ _ _ (by decide) (fun _ => rfl), List.Perm.refl _, List.Pairwise.nil, HB.out⟩
  · have hxs := named_fst ys hok
    generalize named ys hok = xs at hxs
    subst hxs
    rw [List.length_map] at ho hlen2 ⊢
    obtain ⟨hH, hg, hbg, hnc, hcm⟩ := holds_own ho
    have hsz : xs.toArray.size = xs.length := by simp
    have HI := ins_any g cap xs.toArray w1 hH hg (by rw [hsz]; exact hlen2)
    rw [hsz] at HI
    have HS := Lib.hid (sortFunc_any (some ⟨g, 0, none⟩) xs.length cap (.func (.func 78) #[] #[]) w1 hlen2 (SortPost w1 g xs.toArray) (HI.mono fun e w' h => ⟨h.1, h⟩))
    have FIN : Hid (∀ e w2, SortPost w1 g xs.toArray e w2 → RisingPost w es (.returned (.slice (some ⟨g, 0, none⟩) xs.length cap)) w2) := Lib.hid fun e w2 ⟨_, d', n, os, hpm, hst, hw⟩ => by
      obtain ⟨k1, k2, k3⟩ := rise_of (by simpa [Function.comp_def] using hky) hpm hst
      have hB2 : Below w.heap.size w w2 := by rw [hw]; exact below_sorted hb hbg hb.size
      have hH2 : Go.Sort.HoldsK encR 19 w2 g 0 d' := by rw [hw]; exact holdsK_sortWorldK_c encR 19 w1 g 0 xs.toArray d' n os hH hg k1
      have hg2 : g < w2.heap.size := by rw [hw]; exact Nat.lt_of_lt_of_le hg (size_sortWorldK_c encR 19 w1 g 0 n d' os)
      have hp2 : (d'.toList.map (·.1)).Perm es := (k2.map _).trans (by simpa using hp)
      refine ⟨_, _, _, d'.toList.map (·.1), rfl, by simp [k1], ?_, hp2.map _, by rw [List.map_map]; exact k3, hB2⟩
      refine rs_of_holds hH2 hg2 (by rw [k1, hsz]; exact hnc) hcm fun x hx => ?_
      exact (HR.out x.1 (hp2.mem_iff.1 (List.mem_map_of_mem hx))).below hB2 (Nat.le_refl _)
    clear hp hok ho hb hky hH HI hsz hbg hg
    go_wp2_with fail
    refine HS.out.mono ?_
    rintro e w2 ⟨rfl, h2⟩
    have HF := Lib.hid (FIN.out _ _ h2)
    clear h2
    go_wp2
    go_ret
    exact HF.out
set_option maxHeartbeats 1000000 in
theorem brising_any (bm nn : Nat) (es : List RcA) (w : World) (hM : MRs w bm nn es) (hlen : es.length ≤ 10) :
    Calls Tryz.prog 44 #[.map (some bm)] w (RisingPost w es) := by
  have hb := (Below.refl w.heap.size w).alloc (Nat.le_refl _) (.cells #[.map (some bm)] 66)
  have HS := Lib.hid (sortedFunc_any w.heap.size bm nn es (w.alloc (.cells #[.map (some bm)] 66)) (heap_alloc_new w _) (hM.below hb (Nat.le_refl _)) hlen)
  have HB := Lib.hid hb
  clear hM hb
  go_enter Tryz.func44, Tryz.ntmps44
  go_wp2_with fail
  refine (values_any bm w).mono ?_
  rintro e w1 ⟨rfl, rfl⟩
  go_wp2_with fail
  refine HS.out.mono ?_
  rintro e w2 ⟨A, n, c, ys, rfl, h1, h2, h3, h4, h5⟩
  have FIN : Hid (RisingPost w es (.returned (.slice A n c)) w2) := Lib.hid ⟨A, n, c, ys, rfl, h1, h2, h3, h4, HB.out.trans (h5.mono HB.out.size)⟩
  clear h1 h2 h3 h4 h5
  go_wp2
  go_ret
  exact FIN.out
end Go.Proofs.YtcmknbdeafcknaaGreatDoor

