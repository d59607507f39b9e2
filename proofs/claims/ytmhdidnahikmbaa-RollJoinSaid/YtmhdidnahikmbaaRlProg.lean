import Derived.Test.YtmhdidnahikmbaaRlAlong
/-
  What package roll's All answers. Nothing that was there is written.
-/
namespace Go.Proofs.Ytmhdidnahikmbaa
open Go.RowKit Go.Shelf WM
set_option linter.unusedVariables false
set_option maxRecDepth 100000
attribute [local go_sem] Oper.semAt_some
def SlAt (w : World) (b : Nat) (v : Value) : Prop := w.heap[b]? = some (.cells #[v] 25)
theorem SlAt.lt {w : World} {B : Nat} {v : Value} (h : SlAt w B v) : B < w.heap.size := (Array.getElem?_eq_some_iff.1 h).1
theorem SlAt.c {w : World} {B : Nat} {v : Value} (h : SlAt w B v) : w.cell? ⟨B, 0, none⟩ = some v := by rw [cell_of_row _ _ _ _ _ _ h]; rfl
theorem SlAt.fz {w : World} {B : Nat} {v : Value} (h : SlAt w B v) : w.frozen? ⟨B, 0, none⟩ = false := frozen_of_row _ _ _ _ _ h
theorem SlAt.put {w : World} {B : Nat} {v : Value} (h : SlAt w B v) (u : Value) : SlAt (w.setCell ⟨B, 0, none⟩ u) B u := by
  unfold SlAt
  rw [heap_setCell_same _ _ _ _ _ _ h]
  rfl
section
variable {W W' : World} {row : Option Nat} {b : Nat} {cs : Array Value} {t : TypeId} {base k : Nat} {xs : List Value} {v : Value}
theorem row_kept (h : W.heap[b]? = some (.cells cs t)) (hg : W.grownBy W' row) (hne : some b ≠ row) : W'.heap[b]? = some (.cells cs t) := (hg.block b (Array.getElem?_eq_some_iff.1 h).1 hne).trans h
theorem row_turned (h : W.heap[b]? = some (.cells cs t)) (hg : W.grownBy W' row) (hr : ∀ r, row = some r → ∃ o : Obj, W.heap[r]? = some o ∧ o.isCells = false) : W'.heap[b]? = some (.cells cs t) :=
  row_kept h hg (fun e => by
    obtain ⟨o, ho, hc⟩ := hr b e.symm
    rw [h] at ho
    cases ho
    cases hc)
theorem own_turned9 {e : TypeId} {size : Nat} (h : W.ownsRow base e size v k xs) (hg : W.grownBy W' row) (hr : ∀ r, row = some r → ∃ o : Obj, W.heap[r]? = some o ∧ o.isCells = false) : W'.ownsRow base e size v k xs := by
  refine h.kept hg ?_
  rcases h.2 with ⟨rfl, _⟩ | ⟨g, cap, cur, rfl, _, hgb, _⟩
  · exact .inl rfl
  · refine .inr fun e' => ?_
    obtain ⟨o, ho, hc⟩ := hr g (by simpa [Value.ownBlock] using e'.symm)
    rw [hgb] at ho; cases ho; cases hc
theorem not_row9 (h : W.heap[b]? = some (.cells cs t)) (ht : t ≠ 22) (hr : W.ownsRow base 22 1 v k xs) : some b ≠ v.ownBlock := by
  rcases hr.2 with ⟨rfl, _⟩ | ⟨g, cap, cur, rfl, _, hgb, _⟩
  · simp [Value.ownBlock]
  · intro e'
    obtain rfl : b = g := by simpa [Value.ownBlock] using e'
    have := h.symm.trans hgb
    simp at this
    exact ht this.2
theorem grownBy_setCell9 (W : World) (b j : Nat) (v : Value) : W.grownBy (W.setCell ⟨b, j, none⟩ v) (some b) :=
  ⟨rfl, rfl, rfl, (KeepsWalks.setCell W _ v).size, fun k _ hk => Below.heap_setCell _ _ _ k (fun e => hk (by rw [e]))⟩
theorem KeepsFrom.of_below9 {B : Nat} (h : Below W.heap.size W W') : KeepsFrom B W W' := ⟨h.size, fun k o _ hk _ => (h.block k (Array.getElem?_eq_some_iff.1 hk).1).trans hk⟩
theorem own_slice9 {e : TypeId} {size : Nat} (h : W.ownsRow base e size v k xs) : ∃ A c, v = .slice A k c := by
  rcases h.2 with ⟨rfl, rfl⟩ | ⟨g, cap, cur, rfl, _⟩
  · exact ⟨none, 0, rfl⟩
  · exact ⟨_, cap, rfl⟩
end
def JI9 (w : World) (n0 g Bs Bm : Nat) (s : ByteArray) (q : Int) (pre : List Int) (W : World) : Prop :=
  ∃ v, SlAt W g v ∧ W.ownsRow w.heap.size 22 1 v pre.length (pre.flatMap K32.cs) ∧ BoxS W Bs s ∧ BoxI W Bm q ∧ Below w.heap.size w W ∧ n0 ≤ W.heap.size
theorem JI9_own {w : World} {n0 g Bs Bm B : Nat} {s : ByteArray} {q : Int} (hB : w.heap.size ≤ B) : OwnFrom B (JI9 w n0 g Bs Bm s q) := by
  rintro z X Y row ⟨v, h1, h2, h3, h4, h5, h6⟩ hg hr
  have hr' : ∀ r, row = some r → ∃ o : Obj, X.heap[r]? = some o ∧ o.isCells = false := fun r e => (hr r e).2
  exact ⟨v, row_turned h1 hg hr', own_turned9 h2 hg hr', row_turned h3 hg hr', row_turned h4 hg hr', ownFrom_below (β := Unit) (Nat.le_refl _) hB () X Y row h5 hg hr, Nat.le_trans h6 hg.size⟩
theorem JI9_step {w W w1 : World} {n0 g Bs Bm : Nat} {s : ByteArray} {q : Int} {pre : List Int} {x : Int} {v v' : Value}
    (hG : SlAt W g v) (hO : W.ownsRow w.heap.size 22 1 v pre.length (pre.flatMap K32.cs)) (hS : BoxS W Bs s) (hM : BoxI W Bm q) (hB : Below w.heap.size w W)
    (hwg : w.heap.size ≤ g) (hSg : Bs ≠ g) (hMg : Bm ≠ g) (hn : n0 ≤ W.heap.size)
    (hO' : w1.ownsRow w.heap.size 22 1 v' (pre.length + 1) (pre.flatMap K32.cs ++ [.int .u32 x])) (hg : W.grownBy w1 v.ownBlock) :
    SlAt w1 g v ∧ KeepsFrom n0 W (w1.setCell ⟨g, 0, none⟩ v') ∧ Kp9 Bs Bm W (w1.setCell ⟨g, 0, none⟩ v') ∧ JI9 w n0 g Bs Bm s q (pre ++ [x]) (w1.setCell ⟨g, 0, none⟩ v') := by
  have hG1 : SlAt w1 g v := row_kept hG hg (not_row9 hG (by decide) hO)
  have hS1 : BoxS (w1.setCell ⟨g, 0, none⟩ v') Bs s := (Below.heap_setCell _ _ _ _ hSg).trans (row_kept hS hg (not_row9 hS (by decide) hO))
  have hM1 : BoxI (w1.setCell ⟨g, 0, none⟩ v') Bm q := (Below.heap_setCell _ _ _ _ hMg).trans (row_kept hM hg (not_row9 hM (by decide) hO))
  refine ⟨hG1, ?_, ⟨hS1.trans hS.symm, hM1.trans hM.symm⟩, v', hG1.put v', ?_, hS1, hM1, (hB.grown hg hB.size (fun j hj => own_base hO hj)).setCell (p := ⟨g, 0, none⟩) hwg v', Nat.le_trans hn (Nat.le_trans hg.size (KeepsWalks.setCell w1 _ v').size)⟩
  · refine ((KeepsOthers.of_grownBy hg fun j o ej hj => ?_).from n0).trans ((KeepsOthers.setCell _ _ _).from n0)
    rcases hO.2 with ⟨rfl, _⟩ | ⟨g', cap, cur, rfl, _, hgb, _⟩
    · simp [Value.ownBlock] at ej
    · obtain rfl : g' = j := by simpa [Value.ownBlock] using ej
      rw [hgb] at hj; cases hj; rfl
  · rw [List.length_append, List.flatMap_append, List.flatMap_singleton]
    exact hO'.kept (grownBy_setCell9 w1 g 0 v') (.inr (not_row9 hG1 (by decide) hO').symm)
theorem JI9_end {w W : World} {n0 g Bs Bm D : Nat} {s : ByteArray} {q : Int} {L : List Int} {v : Value} (hO : W.ownsRow w.heap.size 22 1 v L.length (L.flatMap K32.cs)) (hB : Below w.heap.size w W)
    (hD : w.heap.size ≤ D) (hK : W.heap[D]? = some (.deferred (some []))) (o : Option (List Deferred)) : RAllPost w L (.returned v) (W.putObj D (.deferred o)) :=
  rall_own (ownsRow_putObj hO _ hK rfl) (hB.trans (belowK_b (w := w) (Nat.le_refl _) _ D _ _ hD hK rfl rfl))
theorem cell_new9 (w : World) (x : Int) (t : TypeId) : ∀ (j : Nat) (u : Value), (K32.cs x)[j]? = some u → (w.alloc (.cells #[.int .u32 x] t)).cell? ((⟨w.heap.size, 0, none⟩ : Addr).add j) = some u := by
  intro j u hu
  have hh := heap_alloc_new w (.cells #[.int .u32 x] t)
  rw [Addr.add_lit, cell_of_row _ _ _ _ _ _ hh, Nat.zero_add, List.getElem?_toArray]
  exact hu
theorem one_K32 (x : Int) : ∀ u ∈ [Value.int .u32 x], u.oneCell' = true := fun u hu => by rw [List.mem_singleton.1 hu]; rfl
set_option maxHeartbeats 8000000 in
theorem rlall_any (s : ByteArray) (m : Int) (w : World) (hs : s.size ≤ 100000) (hm0 : -9223372036854775808 ≤ m) (hm1 : m ≤ 9223372036854775807) : Calls Try.prog 11 #[.string s, .int .i64 m] w (RAllPost w (rlA (nums s) m)) := by
  have HN0 := Lib.hid (rall_nil w)
  obtain ⟨N, hN⟩ : ∃ N, N = s.size := ⟨_, rfl⟩
  have hsz : s.size = N := hN.symm
  have HNN := Lib.hid (show (nums s).length = N by rw [nums_len, hsz])
  clear hN
  by_cases h1 : m < 1
  · have HV := Lib.hid (rlA_none (zs := nums s) (m := m) (.inl h1))
    go_enter Try.func11, Try.ntmps11
    go_wp2
    go_ret
    rw [HV.out]
    exact HN0.out
  · by_cases h2 : (N : Int) < m
    · have HV := Lib.hid (rlA_none (zs := nums s) (m := m) (.inr (by rw [HNN.out]; exact h2)))
      go_enter Try.func11, Try.ntmps11
      go_wp2
      go_ret
      rw [HV.out]
      exact HN0.out
    · obtain ⟨q, rfl⟩ : ∃ q : Nat, m = q := ⟨m.toNat, by omega⟩
      have hq1 : 1 ≤ q := by omega
      have hqN : q ≤ N := by omega
      obtain ⟨d, hd⟩ : ∃ d, d = N - q := ⟨_, rfl⟩
      obtain ⟨c, hc⟩ : ∃ c, c = d + 1 := ⟨_, rfl⟩
      have f1 : IntKind.i64.wrap ((N : Int) - (q : Int)) = (d : Int) := by rw [IntWalk.i64_in _ (by omega)]; omega
      have f2 : IntKind.i64.wrap ((d : Int) + 1) = (c : Int) := by rw [IntWalk.i64_in _ (by omega)]; omega
      have HLN := Lib.hid (rlA_len (zs := nums s) hq1 (by rw [HNN.out]; exact hqN))
      rw [HNN.out] at HLN
      have HST := Lib.hid (fun (w : World) Bs Bm => along_stops 11 (by omega) Bs Bm s q N hq1 hqN hsz (by omega) w)
      have HAL := Lib.hid (fun w => along_any s q w)
      generalize hL : rlA (nums s) (q : Int) = L at *
      have t1 : ¬ (q : Int) < 1 := h1
      have t2 : ¬ (N : Int) < (q : Int) := h2
      have HHC := Lib.hid hc
      have hcb : c ≤ 100000 := by omega
      have HHD := Lib.hid hd
      obtain ⟨i0, hi, hz0, hz1, hz2⟩ := info_parts info32
      have HH2 := Lib.hid hz2
      have hby : i0.bytes = 4 := hz2
      clear hL hc hd h1 h2
      refine (callsIn_wide (n := 12)).1 ?_
      refine callsIn_of_wp_marks Try.func11 rfl trivial ?_ rfl
      simp only [Try.ntmps11, List.size_toArray, List.length_cons, List.length_nil, Nat.reduceAdd, Nat.reduceSub, Array.replicate_succ, Array.replicate_zero, List.push_toArray, List.append_toArray, List.nil_append, List.cons_append]
      refine wpIn_wide.2 ?_
      go_wp2_with (at_make; refine wpList_make_own _ rfl _ _ 25 rfl w.heap.size 22 i0 (.int .u32 0) 1 Try.underlying25 hi hz0 hz1 .i64 .i64 (c : Int) c rfl rfl rfl (by rw [hby]; omega) (by simp only [maxLen]; omega) (Nat.le_refl _) ?_; intro w1 hown hgrow; have OW := Lib.hid hown; have BW := Lib.hid ((Below.refl w.heap.size w).grown hgrow (Nat.le_refl _) (fun _ h => by cases h)); clear hown hgrow)
      have hG0 : SlAt (w1.alloc (.cells #[.slice (some ⟨w.heap.size, 0, none⟩) 0 c] 25)) w1.heap.size (.slice (some ⟨w.heap.size, 0, none⟩) 0 c) := heap_alloc_new w1 _
      have hO0 := OW.out.alloc (.cells #[.slice (some ⟨w.heap.size, 0, none⟩) 0 c] 25)
      have hB0 := BW.out.alloc BW.out.size (.cells #[.slice (some ⟨w.heap.size, 0, none⟩) 0 c] 25)
      obtain ⟨g, hg⟩ : ∃ g, g = w1.heap.size := ⟨_, rfl⟩
      have HG := Lib.hid (show w.heap.size ≤ g by have := BW.out.size; omega)
      obtain ⟨w2, hw2⟩ : ∃ w2, w1.alloc (.cells #[.slice (some ⟨w.heap.size, 0, none⟩) 0 c] 25) = w2 := ⟨_, rfl⟩
      have hsz2 : w2.heap.size = g + 1 := by rw [← hw2, World.size_alloc, hg]
      rw [← hg, hw2] at hG0
      rw [hw2] at hO0 hB0
      try rw [hw2]
      try rw [← hg]
      have HO0 := Lib.hid hO0
      have HB0 := Lib.hid hB0
      have HG0 := Lib.hid hG0
      clear hO0 hB0 hG0 hw2 hg
      go_wp2_with fail
      refine (HAL.out _).mono ?_
      rintro e w3 ⟨rfl, hw3⟩
      obtain ⟨Bs, hBs⟩ : ∃ Bs, Bs = w2.heap.size := ⟨_, rfl⟩
      obtain ⟨Bm, hBm⟩ : ∃ Bm, Bm = w2.heap.size + 1 := ⟨_, rfl⟩
      have hsz3 : w3.heap.size = w2.heap.size + 2 := by rw [hw3, World.size_alloc, World.size_alloc]
      have hS3 : BoxS w3 Bs s := by rw [hw3, hBs]; exact (Below.heap_alloc _ _ _ (by rw [World.size_alloc]; omega)).trans (heap_alloc_new w2 _)
      have hM3 : BoxI w3 Bm q := by
        have h := heap_alloc_new (w2.alloc (.cells #[.string s] 9)) (.cells #[.int .i64 (q : Int)] 3)
        rw [World.size_alloc, ← hBm] at h
        rw [hw3]; exact h
      have hG3 : SlAt w3 g (.slice (some ⟨w.heap.size, 0, none⟩) 0 c) := by rw [hw3]; exact (Below.heap_alloc _ _ _ (by rw [World.size_alloc]; omega)).trans ((Below.heap_alloc _ _ _ (by omega)).trans HG0.out)
      have hO3 := (HO0.out.alloc (.cells #[.string s] 9)).alloc (.cells #[.int .i64 (q : Int)] 3)
      have hB3 := (HB0.out.alloc HB0.out.size (.cells #[.string s] 9)).alloc (by rw [World.size_alloc]; have := HB0.out.size; omega) (.cells #[.int .i64 (q : Int)] 3)
      rw [← hw3] at hO3 hB3
      rw [← hBm, ← hBs]
      have hSg : Bs ≠ g := by omega
      have hMg : Bm ≠ g := by omega
      have hsb := hS3.lt
      have hmb := hM3.lt
      have hgg := HG.out
      clear hw3 hBs hBm
      go_wp2_with fail
      refine (wpIn_wide (n := 12)).1 ?_
      refine wpIn_rangeFunc_ownH (F := Fence.wide) (n := 12) rfl (by omega) (gf := 20) (lb := #[.pointer (some ⟨Bs, 0, none⟩), .pointer (some ⟨Bm, 0, none⟩)]) rfl trivial (enters_of Try.func20 (by kernel_rfl) rfl)
        (HST.out w3 Bs Bm hS3 hM3)
        (fun h k => ⟨k.1.trans h.1, k.2.trans h.2⟩)
        (fun W l o o' hl h _ _ => ⟨World.putObj_heap_other (by omega), World.putObj_heap_other (by omega)⟩)
        (Below.refl _ _) (fun _ => rfl)
        (JI9 w w3.heap.size g Bs Bm s q)
        (fun _ _ _ => False)
        (JI9_own hB3.size)
        (fun _ _ _ _ _ hs _ _ => hs)
        ⟨_, hG3, hO3, hS3, hM3, hB3, Nat.le_refl _⟩
        (fun x a' W => a' = { tmps := (Value.string s :: Value.int .i64 q :: undef :: undef :: Value.slice none 0 0 :: Value.pointer (some ⟨g, 0, none⟩) :: Value.int .u32 x :: Value.int .i64 q :: Value.bool false :: Value.bool false :: Value.int .i64 q :: Value.string s :: Value.int .i64 N :: Value.bool false :: Value.bool false :: Value.string s :: Value.int .i64 N :: Value.int .i64 q :: Value.int .i64 d :: Value.int .i64 c :: Value.slice (some ⟨w.heap.size, 0, none⟩) 0 c :: Value.string s :: Value.int .i64 q :: Value.func (Fn.func 20) #[] #[Value.pointer (some ⟨Bs, 0, none⟩), Value.pointer (some ⟨Bm, 0, none⟩)] :: Value.int .u32 x :: undef :: undef :: undef :: undef :: undef :: []).toArray, defers := [] })
        (fun x a' _ X Y row hs hg hr => hs)
        ?assign ?body ?done ?stop
      case assign =>
        rintro l pre x W K hI hK
        have hK2 := hK _ _ (KeepsFrom.of_below9 (Below.refl _ _)) ⟨rfl, rfl⟩ hI rfl
        clear hK hI
        unfold enc9
        gi_wp2
        exact hK2
      case body =>
        rintro l pre x a' W hl hr ⟨v, hG, hO, hS, hM, hB, hn⟩ rfl hlt
        have hc0 := hG.c
        have HGA : Hid (SlAt (W.alloc (.cells #[.int .u32 x] 22)) g v) := Lib.hid (((Below.refl W.heap.size W).alloc (Nat.le_refl _) (.cells #[.int .u32 x] 22)).block _ hG.lt |>.trans hG)
        have HSA : Hid (BoxS (W.alloc (.cells #[.int .u32 x] 22)) Bs s) := Lib.hid (((Below.refl W.heap.size W).alloc (Nat.le_refl _) (.cells #[.int .u32 x] 22)).block _ hS.lt |>.trans hS)
        have HMA : Hid (BoxI (W.alloc (.cells #[.int .u32 x] 22)) Bm q) := Lib.hid (((Below.refl W.heap.size W).alloc (Nat.le_refl _) (.cells #[.int .u32 x] 22)).block _ hM.lt |>.trans hM)
        have HOA := Lib.hid (hO.alloc (.cells #[.int .u32 x] 22))
        have HBA := Lib.hid (hB.alloc hB.size (.cells #[.int .u32 x] 22))
        have HKA : Hid (KeepsFrom w3.heap.size W (W.alloc (.cells #[.int .u32 x] 22)) ∧ Kp9 Bs Bm W (W.alloc (.cells #[.int .u32 x] 22))) := Lib.hid
          ⟨(KeepsOthers.alloc _ _).from _, HSA.out.trans hS.symm, HMA.out.trans hM.symm⟩
        have HCELL := Lib.hid (cell_new9 W x 22)
        have hws := hB.size
        clear hG hO hS hM hB
        gi_wp2_with (gi_at_builtin; refine wpListIn_append_own _ rfl _ _ 25 rfl w.heap.size 22 i0 (.int .u32 0) 1 4 Try.underlying25 hi hz0 hz1 hby rfl (by decide) _ pre.length _ rfl HOA.out ⟨W.heap.size, 0, none⟩ 1 1 [.int .u32 x] rfl rfl HCELL.out (one_K32 x) (by simp only [maxLen]; omega) (by omega) (by rw [World.size_alloc]; omega) ?_; intro v' w1 hown' hgrow _; obtain ⟨g', cap', rfl⟩ := ownsRow_succ hown'; obtain ⟨q1, q2, q3, q4⟩ := JI9_step (w := w) (n0 := w3.heap.size) HGA.out HOA.out HSA.out HMA.out HBA.out hgg hSg hMg (by rw [World.size_alloc]; omega) hown' hgrow; have r18 := q1.c; have f18 := q1.fz; have Q2X := Lib.hid q2; have Q3X := Lib.hid q3; have Q4X := Lib.hid q4; clear q1 q2 q3 q4 hown' hgrow)
        exact ⟨HKA.out.1.trans Q2X.out, ⟨Q3X.out.1.trans HKA.out.2.1, Q3X.out.2.trans HKA.out.2.2⟩, Q4X.out⟩
      case done =>
        rintro D xs W hD rfl ⟨v, hG, hO, hS, hM, hB, hn⟩ hK
        have hc0 := hG.c
        have P1 := Lib.hid hK
        have P2 := Lib.hid (JI9_end (s := s) (q := q) (n0 := 0) (g := 0) (Bs := 0) (Bm := 0) hO hB (show w.heap.size ≤ D by have := hB3.size; omega) hK none)
        clear hG hO hS hM hB hK
        go_wp2
        refine ⟨by simp, .inl ⟨_, _, rfl, run_takeDeferred P1.out, ?_⟩⟩
        exact ⟨_, by simp [results, Try.results11], P2.out⟩
      case stop =>
        rintro D c pre W _ _ h _
        exact h.elim
end Go.Proofs.Ytmhdidnahikmbaa

