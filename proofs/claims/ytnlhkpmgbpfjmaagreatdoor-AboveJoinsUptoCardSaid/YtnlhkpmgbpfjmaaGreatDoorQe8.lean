import Derived.Test.YtnlhkpmgbpfjmaaGreatDoorQe7
/- What functions answer, part 8. -/
namespace Go.Proofs.YtnlhkpmgbpfjmaaGreatDoor
set_option linter.unusedVariables false
set_option linter.unusedSimpArgs false
set_option maxHeartbeats 16000000
set_option maxRecDepth 100000
section
section
open Go.RowKit WM
theorem Tta33 {p:Prop} (h:p:=by
  go_wp2_with fail;refine (HC.out _).mono ?_;rintro e w1 ⟨rfl,hb1⟩;have bw:=Yy (HB.out.trans (hb1.mono HB.out.size));clear hb1;go_wp2;go_ret;exact⟨rfl,bw.out⟩
 ):p:=h
theorem ord1_any (a b:Cel) (w:World):Calls Tryz.prog 157 #[a.v,b.v] w fun e w'=>e=.returned (.bool (stLess a.n a.r b.n b.r))∧Below w.heap.size w w':=by
 have HC:=Yy (stLess_any a.n a.r b.n b.r);have HB:=Yy (((Below.refl w.heap.size w).alloc Nl (.cells #[.int .i64 a.n,.int .i64 a.r,.string a.s] 38)).alloc (by simp) (.cells #[.int .i64 b.n,.int .i64 b.r,.string b.s] 38));unfold st at HC;unfold Cel.v;go_enter Tryz.func157,Tryz.ntmps157;exact Tta33
theorem ord3_any (a b:Cel) (w:World):Calls Tryz.prog 159 #[a.v,b.v] w fun e w'=>e=.returned (.bool (lessL (nums a.s) (nums b.s)))∧Below w.heap.size w w':=by
 have HB:=Yy (((Below.refl w.heap.size w).alloc Nl (.cells #[.int .i64 a.n,.int .i64 a.r,.string a.s] 38)).alloc (by simp) (.cells #[.int .i64 b.n,.int .i64 b.r,.string b.s] 38));have hl:Op.bytesLess a.s.toList b.s.toList=lessL (nums a.s) (nums b.s):=by
  have:=str_less (nums_bytes a.s) (nums_bytes b.s);rw[str_nums,str_nums]at this;exact this
 unfold Cel.v;go_enter Tryz.func159,Tryz.ntmps159;go_wp2;go_ret;exact⟨rfl,HB.out⟩
def ordV:Value:=.agg #[.func (.func 157) #[] #[],.func (.func 158) #[] #[],.func (.func 159) #[] #[]]
def ordC:Array Value:=#[.func (.func 157) #[] #[],.func (.func 158) #[] #[],.func (.func 159) #[] #[]]
theorem orders_any (w:World):Calls Tryz.prog 151 #[] w fun e w'=>e=.returned ordV∧Below w.heap.size w w':=by
 have F1:=Yy (show (w.alloc (.cells #[.nilFunc,.nilFunc,.nilFunc] 179)).heap[w.heap.size]?=some (.cells #[.nilFunc,.nilFunc,.nilFunc] 179 (0,0)) from heap_alloc_new w _);have HIs:=Yy (show (Tryz.prog.info? 179).map (·.size)=some ordC.size by kernel_rfl);have HZs:=Yy (show (#[.nilFunc,.nilFunc,.nilFunc]:Array Value).size=ordC.size from rfl);have HOs:=Yy (show ordC.all (·.oneCell')=true by kernel_rfl);have F2:=Yy (setRow_heap (w.alloc (.cells #[.nilFunc,.nilFunc,.nilFunc] 179)) w.heap.size _ ordC _ _ F1.out);have F3:=Yy (below_setRow ((Below.refl w.heap.size w).alloc Nl (.cells #[.nilFunc,.nilFunc,.nilFunc] 179)) Nl ordC);go_enter Tryz.func151,Tryz.ntmps151;go_wp2_with (first | ((with_reducible refine wpList_store_row (o:=⟨none,.store 179 (.tmp 0) (.tmp 1),_,_,_,_⟩) ?_ 179 (.tmp 0) (.tmp 1) ?_ w.heap.size ordC ?_ ?_ 179 _ F1.out HIs.out HZs.out HOs.out ?_);rfl;rfl;rfl;rfl));exact bodyPost_ret (v:=ordV) (by exact results_cell_row Tryz.results151 _ _ w.heap.size 179 ordC (0,0) _ rfl F2.out Tryz.underlying179 rfl HIs.out) (by rfl) ⟨rfl,F3.out⟩
theorem ord2_any (a b:Cel) (w:World) (hlaid:Laid w) (ha:a.s.size≤300) (hb:b.s.size≤300):Calls Tryz.prog 158 #[a.v,b.v] w fun e w'=>e=.returned (.bool (lessL (SH.sum (nums a.s)) (SH.sum (nums b.s))))∧Below w.heap.size w w':=by
 have S0:=Yy ((ClAt.new w a).old (.cells #[.int .i64 b.n,.int .i64 b.r,.string b.s] 38));have s1:=ClAt.new (w.alloc (.cells #[.int .i64 a.n,.int .i64 a.r,.string a.s] 38)) b;rw[World.size_alloc]at s1;have S1:=Yy s1;have hB:=(((Below.refl w.heap.size w).alloc Nl (.cells #[.int .i64 a.n,.int .i64 a.r,.string a.s] 38)).alloc (by simp) (.cells #[.int .i64 b.n,.int .i64 b.r,.string b.s] 38));have HB:=Yy hB;have HO:=Yy (fun (c:Cel) (hc:c.s.size≤300) (X:World) (hX:Below ((w.alloc (.cells #[.int .i64 a.n,.int .i64 a.r,.string a.s] 38)).alloc (.cells #[.int .i64 b.n,.int .i64 b.r,.string b.s] 38)).heap.size ((w.alloc (.cells #[.int .i64 a.n,.int .i64 a.r,.string a.s] 38)).alloc (.cells #[.int .i64 b.n,.int .i64 b.r,.string b.s] 38)) X)=>of_any c.s X (hlaid.below (hB.trans (hX.mono hB.size)) Nl) (by omega));have HOa:=Yy (HO.out a ha);have HOb:=Yy (HO.out b hb);have HL:=Yy (fun (X:World)=>less_any (SH.sum (nums a.s)) (SH.sum (nums b.s)) X (SH.sum_bytes _) (SH.sum_bytes _) (SH.sum_len _) (SH.sum_len _));unfold DSumPost at HOa HOb;generalize bvals (SH.sum (nums a.s))=VA at *;generalize bvals (SH.sum (nums b.s))=VB at *;clear s1 hB HO hlaid;unfold Cel.v;go_enter Tryz.func158,Tryz.ntmps158;go_wp2_with fail;refine wp_region_G ((w.alloc (.cells #[.int .i64 a.n,.int .i64 a.r,.string a.s] 38)).alloc (.cells #[.int .i64 b.n,.int .i64 b.r,.string b.s] 38)) (by kernel_rfl) ?_;refine YGa 0 (some 5) rfl ?_
 refine YGd 1 (some 6) _ rfl (fun w9 hSw=>by have q9:=S0.out.below hSw S0.out.lt;have q2:=q9.c2;go_simp;try with_reducible rfl) ?_;refine YGj 2 (some 7) rfl (fun w9 hSw=>HOa.out w9 hSw) ?_;refine YGa 3 (some 8) rfl ?_;refine YGd 4 (some 9) _ rfl (fun w9 hSw=>by have q9:=S1.out.below hSw S1.out.lt;have q2:=q9.c2;go_simp;try with_reducible rfl) ?_;refine YGj 5 (some 10) rfl (fun w9 hSw=>HOb.out w9 hSw) ?_;refine YGk 6 (some 11) rfl HL.out ?_;refine YGa 7 (some 4) rfl ?_;refine wpG_done (by kernel_rfl) ?_ _;intro w9 hSw _;go_wp2;go_ret;exact⟨rfl,HB.out.trans (hSw.mono HB.out.size)⟩
end
section
open Go.RowKit WM
def cless (a b:Cel):Bool:=if stLess a.n a.r b.n b.r then true else if stLess b.n b.r a.n a.r then false else if lessL (SH.sum (nums a.s)) (SH.sum (nums b.s)) then true else if lessL (SH.sum (nums b.s)) (SH.sum (nums a.s)) then false else lessL (nums a.s) (nums b.s)
theorem Tta52 {p:Prop} (h:p:=by
  simp[Instr.index,ordV,run_underlying Tryz.underlying179,asIntOf,go_sem,part]
 ):p:=h
theorem ixOrd0 (w:World):(Instr.index 179 ordV (.int .i64 0)).run Tryz.prog w=.ok (.func (.func 157) #[] #[]) w:=by
 exact Tta52
theorem ixOrd1 (w:World):(Instr.index 179 ordV (.int .i64 1)).run Tryz.prog w=.ok (.func (.func 158) #[] #[]) w:=by
 exact Tta52
theorem ixOrd2 (w:World):(Instr.index 179 ordV (.int .i64 2)).run Tryz.prog w=.ok (.func (.func 159) #[] #[]) w:=by
 exact Tta52
theorem lessBy_any (a b:Cel) (w:World) (hlaid:Laid w) (ha:a.s.size≤300) (hb:b.s.size≤300):Calls Tryz.prog 150 #[ordV,a.v,b.v] w fun e w'=>e=.returned (.bool (cless a b))∧Below w.heap.size w w':=by
 have S4:=Yy (((ClAt.new (w.alloc (.cells ordC 179)) a)).old (.cells #[.int .i64 b.n,.int .i64 b.r,.string b.s] 38));have s5:=ClAt.new ((w.alloc (.cells ordC 179)).alloc (.cells #[.int .i64 a.n,.int .i64 a.r,.string a.s] 38)) b;have hs4:(w.alloc (.cells ordC 179)).heap.size=w.heap.size+1:=World.size_alloc _ _;have hs5:((w.alloc (.cells ordC 179)).alloc (.cells #[.int .i64 a.n,.int .i64 a.r,.string a.s] 38)).heap.size=w.heap.size+1+1:=by rw[World.size_alloc,World.size_alloc]
 rw[hs4]at S4;rw[hs5]at s5;have S5:=Yy s5;have hB:Below w.heap.size w (((w.alloc (.cells ordC 179)).alloc (.cells #[.int .i64 a.n,.int .i64 a.r,.string a.s] 38)).alloc (.cells #[.int .i64 b.n,.int .i64 b.r,.string b.s] 38)):=(((Below.refl w.heap.size w).alloc Nl (.cells ordC 179)).alloc (by simp) (.cells #[.int .i64 a.n,.int .i64 a.r,.string a.s] 38)).alloc (by simp;omega) (.cells #[.int .i64 b.n,.int .i64 b.r,.string b.s] 38);have B0:=Yy hB;have O1:=Yy (ord1_any a b);have O1':=Yy (ord1_any b a);have O2:=Yy (fun (X:World) (hX:Below w.heap.size w X)=>ord2_any a b X (hlaid.below hX Nl) ha hb);have O2':=Yy (fun (X:World) (hX:Below w.heap.size w X)=>ord2_any b a X (hlaid.below hX Nl) hb ha);have O3:=Yy (ord3_any a b);have O3':=Yy (ord3_any b a);have HV:cless a b=cless a b:=rfl
 conv at HV=>rhs;unfold cless
 generalize stLess a.n a.r b.n b.r=L1 at *;generalize stLess b.n b.r a.n a.r=L1' at *;generalize lessL (SH.sum (nums a.s)) (SH.sum (nums b.s))=L2 at *;generalize lessL (SH.sum (nums b.s)) (SH.sum (nums a.s))=L2' at *;generalize lessL (nums a.s) (nums b.s)=L3 at *;generalize lessL (nums b.s) (nums a.s)=L3' at *;unfold Cel.v at O1 O1' O2 O2' O3 O3' ⊢;unfold ordC at S4 S5 B0;unfold ordV;clear s5 hs4 hs5 hB hlaid;have i0:=ixOrd0;have i1:=ixOrd1;have i2:=ixOrd2;unfold ordV at i0 i1 i2;cases L1
 ·simp only[Bool.false_eq_true,if_false]at HV;cases L1'
  ·simp only[Bool.false_eq_true,if_false]at HV;cases L2
   ·simp only[Bool.false_eq_true,if_false]at HV;cases L2'
    ·simp only[Bool.false_eq_true,if_false]at HV;cases L3
     ·skip
      cases L3'
      ·skip
       have HV:=Yy HV;go_enter Tryz.func150,Tryz.ntmps150;go_wp2;refine wp_loop_rounds 4 ?_;rw[rounds_succ];go_wp2_with fail;refine (O1.out _).mono ?_;rintro e w1 ⟨rfl,hb⟩;have S4:=Yy (S4.out.below hb S4.out.lt);have S5:=Yy (S5.out.below hb S5.out.lt);have B1:=Yy (B0.out.trans (hb.mono B0.out.size));have a0:=S4.out.c0;have a1:=S4.out.c1;have a2:=S4.out.c2;have b0:=S5.out.c0;have b1:=S5.out.c1;have b2:=S5.out.c2;clear hb;go_wp2_with fail;refine (O1'.out _).mono ?_;rintro e w2 ⟨rfl,hb⟩;have S4:=Yy (S4.out.below hb S4.out.lt);have S5:=Yy (S5.out.below hb S5.out.lt);have B2:=Yy (B1.out.trans (hb.mono B1.out.size));clear a0 a1 a2 b0 b1 b2;have a0:=S4.out.c0;have a1:=S4.out.c1;have a2:=S4.out.c2;have b0:=S5.out.c0;have b1:=S5.out.c1;have b2:=S5.out.c2;clear hb;go_wp2_with fail;rw[rounds_succ];go_wp2_with fail;refine (O2.out _ B2.out).mono ?_;rintro e w3 ⟨rfl,hb⟩;have S4:=Yy (S4.out.below hb S4.out.lt);have S5:=Yy (S5.out.below hb S5.out.lt);have B3:=Yy (B2.out.trans (hb.mono B2.out.size));clear a0 a1 a2 b0 b1 b2;have a0:=S4.out.c0;have a1:=S4.out.c1;have a2:=S4.out.c2;have b0:=S5.out.c0;have b1:=S5.out.c1;have b2:=S5.out.c2;clear hb;go_wp2_with fail;refine (O2'.out _ B3.out).mono ?_;rintro e w4 ⟨rfl,hb⟩;have S4:=Yy (S4.out.below hb S4.out.lt);have S5:=Yy (S5.out.below hb S5.out.lt);have B4:=Yy (B3.out.trans (hb.mono B3.out.size));clear a0 a1 a2 b0 b1 b2;have a0:=S4.out.c0;have a1:=S4.out.c1;have a2:=S4.out.c2;have b0:=S5.out.c0;have b1:=S5.out.c1;have b2:=S5.out.c2;clear hb
       go_wp2_with fail;rw[rounds_succ];go_wp2_with fail;refine (O3.out _).mono ?_;rintro e w5 ⟨rfl,hb⟩;have S4:=Yy (S4.out.below hb S4.out.lt);have S5:=Yy (S5.out.below hb S5.out.lt);have B5:=Yy (B4.out.trans (hb.mono B4.out.size));clear a0 a1 a2 b0 b1 b2;have a0:=S4.out.c0;have a1:=S4.out.c1;have a2:=S4.out.c2;have b0:=S5.out.c0;have b1:=S5.out.c1;have b2:=S5.out.c2;clear hb;go_wp2_with fail;refine (O3'.out _).mono ?_;rintro e w6 ⟨rfl,hb⟩;have S4:=Yy (S4.out.below hb S4.out.lt);have S5:=Yy (S5.out.below hb S5.out.lt);have B6:=Yy (B5.out.trans (hb.mono B5.out.size));clear a0 a1 a2 b0 b1 b2;have a0:=S4.out.c0;have a1:=S4.out.c1;have a2:=S4.out.c2;have b0:=S5.out.c0;have b1:=S5.out.c1;have b2:=S5.out.c2;clear hb;go_wp2_with fail;rw[rounds_succ];go_wp2_with fail;go_ret;exact⟨by rw[HV.out];rfl,B6.out⟩
      ·skip
       have HV:=Yy HV;go_enter Tryz.func150,Tryz.ntmps150;go_wp2;refine wp_loop_rounds 4 ?_;rw[rounds_succ];go_wp2_with fail;refine (O1.out _).mono ?_;rintro e w1 ⟨rfl,hb⟩;have S4:=Yy (S4.out.below hb S4.out.lt);have S5:=Yy (S5.out.below hb S5.out.lt);have B1:=Yy (B0.out.trans (hb.mono B0.out.size));have a0:=S4.out.c0;have a1:=S4.out.c1;have a2:=S4.out.c2;have b0:=S5.out.c0;have b1:=S5.out.c1;have b2:=S5.out.c2;clear hb;go_wp2_with fail;refine (O1'.out _).mono ?_;rintro e w2 ⟨rfl,hb⟩;have S4:=Yy (S4.out.below hb S4.out.lt);have S5:=Yy (S5.out.below hb S5.out.lt);have B2:=Yy (B1.out.trans (hb.mono B1.out.size));clear a0 a1 a2 b0 b1 b2;have a0:=S4.out.c0;have a1:=S4.out.c1;have a2:=S4.out.c2;have b0:=S5.out.c0;have b1:=S5.out.c1;have b2:=S5.out.c2;clear hb;go_wp2_with fail;rw[rounds_succ];go_wp2_with fail;refine (O2.out _ B2.out).mono ?_;rintro e w3 ⟨rfl,hb⟩;have S4:=Yy (S4.out.below hb S4.out.lt);have S5:=Yy (S5.out.below hb S5.out.lt);have B3:=Yy (B2.out.trans (hb.mono B2.out.size));clear a0 a1 a2 b0 b1 b2;have a0:=S4.out.c0;have a1:=S4.out.c1;have a2:=S4.out.c2;have b0:=S5.out.c0;have b1:=S5.out.c1;have b2:=S5.out.c2;clear hb;go_wp2_with fail;refine (O2'.out _ B3.out).mono ?_;rintro e w4 ⟨rfl,hb⟩;have S4:=Yy (S4.out.below hb S4.out.lt);have S5:=Yy (S5.out.below hb S5.out.lt);have B4:=Yy (B3.out.trans (hb.mono B3.out.size));clear a0 a1 a2 b0 b1 b2;have a0:=S4.out.c0;have a1:=S4.out.c1;have a2:=S4.out.c2;have b0:=S5.out.c0;have b1:=S5.out.c1;have b2:=S5.out.c2;clear hb
       go_wp2_with fail;rw[rounds_succ];go_wp2_with fail;refine (O3.out _).mono ?_;rintro e w5 ⟨rfl,hb⟩;have S4:=Yy (S4.out.below hb S4.out.lt);have S5:=Yy (S5.out.below hb S5.out.lt);have B5:=Yy (B4.out.trans (hb.mono B4.out.size));clear a0 a1 a2 b0 b1 b2;have a0:=S4.out.c0;have a1:=S4.out.c1;have a2:=S4.out.c2;have b0:=S5.out.c0;have b1:=S5.out.c1;have b2:=S5.out.c2;clear hb;go_wp2_with fail;refine (O3'.out _).mono ?_;rintro e w6 ⟨rfl,hb⟩;have S4:=Yy (S4.out.below hb S4.out.lt);have S5:=Yy (S5.out.below hb S5.out.lt);have B6:=Yy (B5.out.trans (hb.mono B5.out.size));clear a0 a1 a2 b0 b1 b2;have a0:=S4.out.c0;have a1:=S4.out.c1;have a2:=S4.out.c2;have b0:=S5.out.c0;have b1:=S5.out.c1;have b2:=S5.out.c2;clear hb;go_wp2;go_ret;exact⟨by rw[HV.out];rfl,B6.out⟩
     ·skip
      have HV:=Yy HV;go_enter Tryz.func150,Tryz.ntmps150;go_wp2;refine wp_loop_rounds 4 ?_;rw[rounds_succ];go_wp2_with fail;refine (O1.out _).mono ?_;rintro e w1 ⟨rfl,hb⟩;have S4:=Yy (S4.out.below hb S4.out.lt);have S5:=Yy (S5.out.below hb S5.out.lt);have B1:=Yy (B0.out.trans (hb.mono B0.out.size));have a0:=S4.out.c0;have a1:=S4.out.c1;have a2:=S4.out.c2;have b0:=S5.out.c0;have b1:=S5.out.c1;have b2:=S5.out.c2;clear hb;go_wp2_with fail;refine (O1'.out _).mono ?_;rintro e w2 ⟨rfl,hb⟩;have S4:=Yy (S4.out.below hb S4.out.lt);have S5:=Yy (S5.out.below hb S5.out.lt);have B2:=Yy (B1.out.trans (hb.mono B1.out.size));clear a0 a1 a2 b0 b1 b2;have a0:=S4.out.c0;have a1:=S4.out.c1;have a2:=S4.out.c2;have b0:=S5.out.c0;have b1:=S5.out.c1;have b2:=S5.out.c2;clear hb;go_wp2_with fail;rw[rounds_succ];go_wp2_with fail;refine (O2.out _ B2.out).mono ?_;rintro e w3 ⟨rfl,hb⟩;have S4:=Yy (S4.out.below hb S4.out.lt);have S5:=Yy (S5.out.below hb S5.out.lt);have B3:=Yy (B2.out.trans (hb.mono B2.out.size));clear a0 a1 a2 b0 b1 b2;have a0:=S4.out.c0;have a1:=S4.out.c1;have a2:=S4.out.c2;have b0:=S5.out.c0;have b1:=S5.out.c1;have b2:=S5.out.c2;clear hb;go_wp2_with fail;refine (O2'.out _ B3.out).mono ?_;rintro e w4 ⟨rfl,hb⟩;have S4:=Yy (S4.out.below hb S4.out.lt);have S5:=Yy (S5.out.below hb S5.out.lt);have B4:=Yy (B3.out.trans (hb.mono B3.out.size));clear a0 a1 a2 b0 b1 b2;have a0:=S4.out.c0;have a1:=S4.out.c1;have a2:=S4.out.c2;have b0:=S5.out.c0;have b1:=S5.out.c1;have b2:=S5.out.c2;clear hb
      go_wp2_with fail;rw[rounds_succ];go_wp2_with fail;refine (O3.out _).mono ?_;rintro e w5 ⟨rfl,hb⟩;have S4:=Yy (S4.out.below hb S4.out.lt);have S5:=Yy (S5.out.below hb S5.out.lt);have B5:=Yy (B4.out.trans (hb.mono B4.out.size));clear a0 a1 a2 b0 b1 b2;have a0:=S4.out.c0;have a1:=S4.out.c1;have a2:=S4.out.c2;have b0:=S5.out.c0;have b1:=S5.out.c1;have b2:=S5.out.c2;clear hb;go_wp2;go_ret;exact⟨by rw[HV.out];rfl,B5.out⟩
    ·simp only[if_true]at HV;have HV:=Yy HV;go_enter Tryz.func150,Tryz.ntmps150;go_wp2;refine wp_loop_rounds 4 ?_;rw[rounds_succ];go_wp2_with fail;refine (O1.out _).mono ?_;rintro e w1 ⟨rfl,hb⟩;have S4:=Yy (S4.out.below hb S4.out.lt);have S5:=Yy (S5.out.below hb S5.out.lt);have B1:=Yy (B0.out.trans (hb.mono B0.out.size));have a0:=S4.out.c0;have a1:=S4.out.c1;have a2:=S4.out.c2;have b0:=S5.out.c0;have b1:=S5.out.c1;have b2:=S5.out.c2;clear hb;go_wp2_with fail;refine (O1'.out _).mono ?_;rintro e w2 ⟨rfl,hb⟩;have S4:=Yy (S4.out.below hb S4.out.lt);have S5:=Yy (S5.out.below hb S5.out.lt);have B2:=Yy (B1.out.trans (hb.mono B1.out.size));clear a0 a1 a2 b0 b1 b2;have a0:=S4.out.c0;have a1:=S4.out.c1;have a2:=S4.out.c2;have b0:=S5.out.c0;have b1:=S5.out.c1;have b2:=S5.out.c2;clear hb;go_wp2_with fail;rw[rounds_succ];go_wp2_with fail;refine (O2.out _ B2.out).mono ?_;rintro e w3 ⟨rfl,hb⟩;have S4:=Yy (S4.out.below hb S4.out.lt);have S5:=Yy (S5.out.below hb S5.out.lt);have B3:=Yy (B2.out.trans (hb.mono B2.out.size));clear a0 a1 a2 b0 b1 b2;have a0:=S4.out.c0;have a1:=S4.out.c1;have a2:=S4.out.c2;have b0:=S5.out.c0;have b1:=S5.out.c1;have b2:=S5.out.c2;clear hb;go_wp2_with fail;refine (O2'.out _ B3.out).mono ?_;rintro e w4 ⟨rfl,hb⟩;have S4:=Yy (S4.out.below hb S4.out.lt);have S5:=Yy (S5.out.below hb S5.out.lt);have B4:=Yy (B3.out.trans (hb.mono B3.out.size));clear a0 a1 a2 b0 b1 b2;have a0:=S4.out.c0;have a1:=S4.out.c1;have a2:=S4.out.c2;have b0:=S5.out.c0;have b1:=S5.out.c1
     have b2:=S5.out.c2;clear hb;go_wp2;go_ret;exact⟨by rw[HV.out];rfl,B4.out⟩
   ·simp only[if_true]at HV;have HV:=Yy HV;go_enter Tryz.func150,Tryz.ntmps150;go_wp2;refine wp_loop_rounds 4 ?_;rw[rounds_succ];go_wp2_with fail;refine (O1.out _).mono ?_;rintro e w1 ⟨rfl,hb⟩;have S4:=Yy (S4.out.below hb S4.out.lt);have S5:=Yy (S5.out.below hb S5.out.lt);have B1:=Yy (B0.out.trans (hb.mono B0.out.size));have a0:=S4.out.c0;have a1:=S4.out.c1;have a2:=S4.out.c2;have b0:=S5.out.c0;have b1:=S5.out.c1;have b2:=S5.out.c2;clear hb;go_wp2_with fail;refine (O1'.out _).mono ?_;rintro e w2 ⟨rfl,hb⟩;have S4:=Yy (S4.out.below hb S4.out.lt);have S5:=Yy (S5.out.below hb S5.out.lt);have B2:=Yy (B1.out.trans (hb.mono B1.out.size));clear a0 a1 a2 b0 b1 b2;have a0:=S4.out.c0;have a1:=S4.out.c1;have a2:=S4.out.c2;have b0:=S5.out.c0;have b1:=S5.out.c1;have b2:=S5.out.c2;clear hb;go_wp2_with fail;rw[rounds_succ];go_wp2_with fail;refine (O2.out _ B2.out).mono ?_;rintro e w3 ⟨rfl,hb⟩;have S4:=Yy (S4.out.below hb S4.out.lt);have S5:=Yy (S5.out.below hb S5.out.lt);have B3:=Yy (B2.out.trans (hb.mono B2.out.size));clear a0 a1 a2 b0 b1 b2;have a0:=S4.out.c0;have a1:=S4.out.c1;have a2:=S4.out.c2;have b0:=S5.out.c0;have b1:=S5.out.c1;have b2:=S5.out.c2;clear hb;go_wp2;go_ret;exact⟨by rw[HV.out];rfl,B3.out⟩
  ·simp only[if_true]at HV;have HV:=Yy HV;go_enter Tryz.func150,Tryz.ntmps150;go_wp2;refine wp_loop_rounds 4 ?_;rw[rounds_succ];go_wp2_with fail;refine (O1.out _).mono ?_;rintro e w1 ⟨rfl,hb⟩;have S4:=Yy (S4.out.below hb S4.out.lt);have S5:=Yy (S5.out.below hb S5.out.lt);have B1:=Yy (B0.out.trans (hb.mono B0.out.size));have a0:=S4.out.c0;have a1:=S4.out.c1;have a2:=S4.out.c2;have b0:=S5.out.c0;have b1:=S5.out.c1;have b2:=S5.out.c2;clear hb;go_wp2_with fail;refine (O1'.out _).mono ?_;rintro e w2 ⟨rfl,hb⟩;have S4:=Yy (S4.out.below hb S4.out.lt);have S5:=Yy (S5.out.below hb S5.out.lt);have B2:=Yy (B1.out.trans (hb.mono B1.out.size));clear a0 a1 a2 b0 b1 b2;have a0:=S4.out.c0;have a1:=S4.out.c1;have a2:=S4.out.c2;have b0:=S5.out.c0;have b1:=S5.out.c1;have b2:=S5.out.c2;clear hb;go_wp2;go_ret;exact⟨by rw[HV.out];rfl,B2.out⟩
 ·simp only[if_true]at HV;have HV:=Yy HV;go_enter Tryz.func150,Tryz.ntmps150;go_wp2;refine wp_loop_rounds 4 ?_;rw[rounds_succ];go_wp2_with fail;refine (O1.out _).mono ?_;rintro e w1 ⟨rfl,hb⟩;have S4:=Yy (S4.out.below hb S4.out.lt);have S5:=Yy (S5.out.below hb S5.out.lt);have B1:=Yy (B0.out.trans (hb.mono B0.out.size));have a0:=S4.out.c0;have a1:=S4.out.c1;have a2:=S4.out.c2;have b0:=S5.out.c0;have b1:=S5.out.c1;have b2:=S5.out.c2;clear hb;go_wp2;go_ret;exact⟨by rw[HV.out];rfl,B1.out⟩
end
section
open Go.RowKit WM
theorem stLess_self (n r:Int):stLess n r n r=false:=by rw[st_no];omega
theorem cless_self (a:Cel):cless a a=false:=by simp[cless,stLess_self,lessL_self]
theorem cless_any (a b:Cel) (w:World) (hlaid:Laid w) (ha:a.s.size≤300) (hb:b.s.size≤300):Calls Tryz.prog 138 #[a.v,b.v] w fun e w'=>e=.returned (.bool (cless a b))∧Below w.heap.size w w':=by
 by_cases he:a=b
 ·subst he;have HE:=cl_same a;have HB:=Yy (((Below.refl w.heap.size w).alloc Nl (.cells #[.int .i64 a.n,.int .i64 a.r,.string a.s] 38)).alloc (by simp) (.cells #[.int .i64 a.n,.int .i64 a.r,.string a.s] 38));have HV:=Yy (cless_self a);unfold Cel.v;clear hlaid;go_enter Tryz.func138,Tryz.ntmps138;go_wp2;go_ret;exact⟨by rw[HV.out];rfl,HB.out⟩
 ·have HE:=cl_ne he;have S0:=Yy ((ClAt.new w a).old (.cells #[.int .i64 b.n,.int .i64 b.r,.string b.s] 38));have s1:=ClAt.new (w.alloc (.cells #[.int .i64 a.n,.int .i64 a.r,.string a.s] 38)) b;rw[World.size_alloc]at s1;have S1:=Yy s1;have hB:=(((Below.refl w.heap.size w).alloc Nl (.cells #[.int .i64 a.n,.int .i64 a.r,.string a.s] 38)).alloc (by simp) (.cells #[.int .i64 b.n,.int .i64 b.r,.string b.s] 38));have HB:=Yy hB;have HO:=Yy orders_any;have HL:=Yy (fun (X:World) (hX:Below ((w.alloc (.cells #[.int .i64 a.n,.int .i64 a.r,.string a.s] 38)).alloc (.cells #[.int .i64 b.n,.int .i64 b.r,.string b.s] 38)).heap.size ((w.alloc (.cells #[.int .i64 a.n,.int .i64 a.r,.string a.s] 38)).alloc (.cells #[.int .i64 b.n,.int .i64 b.r,.string b.s] 38)) X)=>lessBy_any a b X (hlaid.below (hB.trans (hX.mono hB.size)) Nl) ha hb);clear s1 hB hlaid he;unfold Cel.v at HL ⊢;go_enter Tryz.func138,Tryz.ntmps138;go_wp2_with fail;refine wp_region_G ((w.alloc (.cells #[.int .i64 a.n,.int .i64 a.r,.string a.s] 38)).alloc (.cells #[.int .i64 b.n,.int .i64 b.r,.string b.s] 38)) (by kernel_rfl) ?_;refine YGk 0 (some 8) rfl HO.out ?_;refine YGd 1 (some 9) _ rfl (fun w9 hSw=>by have q9:=S0.out.below hSw S0.out.lt;have q0:=q9.c0;have q1:=q9.c1;have q2:=q9.c2;go_simp;try with_reducible rfl) ?_;refine YGd 2 (some 10) _ rfl (fun w9 hSw=>by have q9:=S1.out.below hSw S1.out.lt;have q0:=q9.c0;have q1:=q9.c1;have q2:=q9.c2;go_simp;try with_reducible rfl) ?_;refine YGj 3 (some 11) rfl (fun w9 hSw=>HL.out w9 hSw) ?_
  refine YGa 4 (some 4) rfl ?_;refine wpG_done (by kernel_rfl) ?_ _;intro w9 hSw _;go_wp2;go_ret;exact⟨rfl,HB.out.trans (hSw.mono HB.out.size)⟩
def cjoin (a b:Cel):Cel:=if cless a b then b else a
theorem cjoin_size {a b:Cel} {k:Nat} (ha:a.s.size≤k) (hb:b.s.size≤k):(cjoin a b).s.size≤k:=by unfold cjoin;split<;>assumption
theorem cjoin_any (a b:Cel) (w:World) (hlaid:Laid w) (ha:a.s.size≤300) (hb:b.s.size≤300):Calls Tryz.prog 126 #[a.v,b.v] w fun e w'=>e=.returned (cjoin a b).v∧Below w.heap.size w w':=by
 have S0:=Yy (((ClAt.new w a).old (.cells #[.int .i64 b.n,.int .i64 b.r,.string b.s] 38)).old (.cells #[.int .i64 0,.int .i64 0,.string ⟨#[]⟩] 38));have s1:=(ClAt.new (w.alloc (.cells #[.int .i64 a.n,.int .i64 a.r,.string a.s] 38)) b).old (.cells #[.int .i64 0,.int .i64 0,.string ⟨#[]⟩] 38);rw[World.size_alloc]at s1;have S1:=Yy s1;have s2:=ClAt.new ((w.alloc (.cells #[.int .i64 a.n,.int .i64 a.r,.string a.s] 38)).alloc (.cells #[.int .i64 b.n,.int .i64 b.r,.string b.s] 38)) ⟨0,0,⟨#[]⟩⟩;rw[World.size_alloc,World.size_alloc]at s2;have S2:=Yy s2;have hB:=(((Below.refl w.heap.size w).alloc Nl (.cells #[.int .i64 a.n,.int .i64 a.r,.string a.s] 38)).alloc (by simp) (.cells #[.int .i64 b.n,.int .i64 b.r,.string b.s] 38)).alloc (by simp;omega) (.cells #[.int .i64 0,.int .i64 0,.string ⟨#[]⟩] 38);have B0:=Yy hB;have HL:=Yy (fun (X:World) (hX:Below w.heap.size w X)=>cless_any a b X (hlaid.below hX Nl) ha hb)
 conv=>congr;rfl;rfl;(unfold Cel.v)
 clear s1 s2 hB hlaid;cases hl:cless a b
 ·rw[hl]at HL;have HV:=Yy (show cjoin a b=a by simp[cjoin,hl]);clear hl;unfold Cel.v at HL;go_enter Tryz.func126,Tryz.ntmps126;go_wp2_with fail;refine (HL.out _ B0.out).mono ?_;rintro e w1 ⟨rfl,hb1⟩;have s0:=S0.out.below hb1 S0.out.lt;have s1:=S1.out.below hb1 S1.out.lt;have s2:=S2.out.below hb1 S2.out.lt;have bw:=B0.out.trans (hb1.mono B0.out.size);have a0:=s0.c0;have a1:=s0.c1;have a2:=s0.c2;have b0:=s1.c0;have b1:=s1.c1;have b2:=s1.c2;have c0:=s2.c0;have c1:=s2.c1;have c2:=s2.c2;have f0:=s2.fz 0;have f1:=s2.fz 1;have f2:=s2.fz 2;have S9:=Yy (s2.put a);have B9:=Yy (below_put3 bw (show w.heap.size≤w.heap.size+1+1 by omega) (.int .i64 a.n) (.int .i64 a.r) (.string a.s));clear s0 s1 s2 hb1 bw;go_wp2;refine bodyPost_ret (v:=a.v) ?_ rfl ⟨by rw[HV.out],?_⟩
  ·exact res_cl Tryz.results126 rfl S9.out
  ·exact B9.out
 ·rw[hl]at HL;have HV:=Yy (show cjoin a b=b by simp[cjoin,hl]);clear hl;unfold Cel.v at HL;go_enter Tryz.func126,Tryz.ntmps126;go_wp2_with fail;refine (HL.out _ B0.out).mono ?_;rintro e w1 ⟨rfl,hb1⟩;have s0:=S0.out.below hb1 S0.out.lt;have s1:=S1.out.below hb1 S1.out.lt;have s2:=S2.out.below hb1 S2.out.lt;have bw:=B0.out.trans (hb1.mono B0.out.size);have a0:=s0.c0;have a1:=s0.c1;have a2:=s0.c2;have b0:=s1.c0;have b1:=s1.c1;have b2:=s1.c2;have c0:=s2.c0;have c1:=s2.c1;have c2:=s2.c2;have f0:=s2.fz 0;have f1:=s2.fz 1;have f2:=s2.fz 2;have S9:=Yy (s2.put b);have B9:=Yy (below_put3 bw (show w.heap.size≤w.heap.size+1+1 by omega) (.int .i64 b.n) (.int .i64 b.r) (.string b.s));clear s0 s1 s2 hb1 bw;go_wp2;refine bodyPost_ret (v:=b.v) ?_ rfl ⟨by rw[HV.out],?_⟩
  ·exact res_cl Tryz.results126 rfl S9.out
  ·exact B9.out
end
section
open Go.RowKit WM
theorem stMax_any (n r m s:Int) (w:World):Calls Tryz.prog 94 #[st n r,st m s] w fun e w'=>e=.returned (if stLess n r m s then st m s else st n r)∧Below w.heap.size w w':=by
 cases hl:stLess n r m s
 ·have hc:=Yy (stLess_any n r m s);rw[hl]at hc;unfold st at hc ⊢;have S0:=Yy (((StAt.new w n r).old (.cells #[.int .i64 m,.int .i64 s] 33)).old (.cells #[.int .i64 0,.int .i64 0] 33));have s1:=(StAt.new (w.alloc (.cells #[.int .i64 n,.int .i64 r] 33)) m s).old (.cells #[.int .i64 0,.int .i64 0] 33);have s2:=(StAt.new ((w.alloc (.cells #[.int .i64 n,.int .i64 r] 33)).alloc (.cells #[.int .i64 m,.int .i64 s] 33)) 0 0);rw[World.size_alloc]at s1 s2;rw[World.size_alloc]at s2;have HB:=Yy (((((Below.refl w.heap.size w).alloc Nl (.cells #[.int .i64 n,.int .i64 r] 33))).alloc (by simp) (.cells #[.int .i64 m,.int .i64 s] 33)).alloc (by simp;omega) (.cells #[.int .i64 0,.int .i64 0] 33));have S1:=Yy s1;have S2:=Yy s2;clear s1 s2;go_enter Tryz.func94,Tryz.ntmps94;go_wp2_with fail;refine (hc.out _).mono ?_;rintro e w1 ⟨rfl,hb1⟩;have s0:=S0.out.below hb1 S0.out.lt;have s1:=S1.out.below hb1 S1.out.lt;have s2:=S2.out.below hb1 S2.out.lt;have bw:=HB.out.trans (hb1.mono HB.out.size);have a0:=s0.c0;have a1:=s0.c1;have b0:=s1.c0;have b1:=s1.c1;have c0:=s2.c0;have c1:=s2.c1;have f0:=s2.fz 0;have f1:=s2.fz 1;have S9:=Yy (s2.put n r);have B9:=Yy (below_put bw (show w.heap.size≤w.heap.size+1+1 by omega) (.int .i64 n) (.int .i64 r));clear s0 s1 s2 hb1 bw;go_wp2;refine bodyPost_ret (v:=st n r) ?_ rfl ⟨rfl,?_⟩
  ·exact res_st Tryz.results94 rfl S9.out
  ·exact B9.out
 ·have hc:=Yy (stLess_any n r m s);rw[hl]at hc;unfold st at hc ⊢;have S0:=Yy (((StAt.new w n r).old (.cells #[.int .i64 m,.int .i64 s] 33)).old (.cells #[.int .i64 0,.int .i64 0] 33));have s1:=(StAt.new (w.alloc (.cells #[.int .i64 n,.int .i64 r] 33)) m s).old (.cells #[.int .i64 0,.int .i64 0] 33);have s2:=(StAt.new ((w.alloc (.cells #[.int .i64 n,.int .i64 r] 33)).alloc (.cells #[.int .i64 m,.int .i64 s] 33)) 0 0);rw[World.size_alloc]at s1 s2;rw[World.size_alloc]at s2;have HB:=Yy (((((Below.refl w.heap.size w).alloc Nl (.cells #[.int .i64 n,.int .i64 r] 33))).alloc (by simp) (.cells #[.int .i64 m,.int .i64 s] 33)).alloc (by simp;omega) (.cells #[.int .i64 0,.int .i64 0] 33));have S1:=Yy s1;have S2:=Yy s2;clear s1 s2;go_enter Tryz.func94,Tryz.ntmps94;go_wp2_with fail;refine (hc.out _).mono ?_;rintro e w1 ⟨rfl,hb1⟩;have s0:=S0.out.below hb1 S0.out.lt;have s1:=S1.out.below hb1 S1.out.lt;have s2:=S2.out.below hb1 S2.out.lt;have bw:=HB.out.trans (hb1.mono HB.out.size);have a0:=s0.c0;have a1:=s0.c1;have b0:=s1.c0;have b1:=s1.c1;have c0:=s2.c0;have c1:=s2.c1;have f0:=s2.fz 0;have f1:=s2.fz 1;have S9:=Yy (s2.put m s);have B9:=Yy (below_put bw (show w.heap.size≤w.heap.size+1+1 by omega) (.int .i64 m) (.int .i64 s));clear s0 s1 s2 hb1 bw;go_wp2;refine bodyPost_ret (v:=st m s) ?_ rfl ⟨rfl,?_⟩
  ·exact res_st Tryz.results94 rfl S9.out
  ·exact B9.out
theorem max_any (a b:Int×Int) (w:World):Calls Tryz.prog 94 #[st a.1 a.2,st b.1 b.2] w fun e w'=>e=.returned (st (mx a b).1 (mx a b).2)∧Below w.heap.size w w':=by
 refine (stMax_any a.1 a.2 b.1 b.2 w).mono ?_;rintro e w' ⟨rfl,hb⟩;refine⟨?_,hb⟩;unfold mx
 split<;>rfl
end
section
open Go.RowKit WM
structure Fld where
 no:Int
 c:Cel
def cel00:Cel:=⟨0,0,⟨#[]⟩⟩
def fld0:Fld:=⟨0,cel00⟩
def Fld.cs (f:Fld):List Value:=[.int .i64 f.no,.int .i64 f.c.n,.int .i64 f.c.r,.string f.c.s]
def rcells (z:List Int) (n r:Int) (v:Value):Array Value:=(z.map (Value.int .u8)++[.int .i64 n,.int .i64 r,v]).toArray
def rv (z:List Int) (n r:Int) (v:Value):Value:=.agg (rcells z n r v)
def RcAt (w:World) (b:Nat) (z:List Int) (n r:Int) (v:Value):Prop:=z.length=16∧w.heap[b]?=some (.cells (rcells z n r v) 36)
theorem rcells_get {z:List Int} (hz:z.length=16) (n r:Int) (v:Value):(rcells z n r v)[16]?=some (.int .i64 n)∧(rcells z n r v)[17]?=some (.int .i64 r)∧(rcells z n r v)[18]?=some v:=by
 refine⟨?_,?_,?_⟩<;>(unfold rcells;rw[List.getElem?_toArray,List.getElem?_append_right (by simp[hz])];simp[hz])
theorem rcells_size {z:List Int} (hz:z.length=16) (n r:Int) (v:Value):(rcells z n r v).size=19:=by simp[rcells,hz]
section
variable {w w':World} {b B:Nat} {z:List Int} {n r:Int} {v:Value}
theorem RcAt.c16 (h:RcAt w b z n r v):w.cell? ⟨b,16,none⟩=some (.int .i64 n):=by rw[cell_of_row _ _ _ _ _ _ h.2];exact (rcells_get h.1 n r v).1
theorem RcAt.c17 (h:RcAt w b z n r v):w.cell? ⟨b,17,none⟩=some (.int .i64 r):=by rw[cell_of_row _ _ _ _ _ _ h.2];exact (rcells_get h.1 n r v).2.1
theorem RcAt.c18 (h:RcAt w b z n r v):w.cell? ⟨b,18,none⟩=some v:=by rw[cell_of_row _ _ _ _ _ _ h.2];exact (rcells_get h.1 n r v).2.2
theorem RcAt.fz (h:RcAt w b z n r v) (j:Nat):w.frozen? ⟨b,j,none⟩=false:=frozen_of_row _ _ _ _ _ h.2
theorem RcAt.lt (h:RcAt w b z n r v):b<w.heap.size:=by
 rcases Nat.lt_or_ge b w.heap.size with h1 | h1
 ·exact h1
 ·have h2:=h.2;rw[Array.getElem?_eq_none h1]at h2;cases h2
theorem RcAt.below (h:RcAt w b z n r v) (hb:Below B w w') (hB:b<B):RcAt w' b z n r v:=⟨h.1,by rw[hb.block b hB];exact h.2⟩
theorem RcAt.new (w:World) (hz:z.length=16) (n r:Int) (v:Value):RcAt (w.alloc (.cells (rcells z n r v) 36)) w.heap.size z n r v:=⟨hz,heap_alloc_new w _⟩
theorem RcAt.old (h:RcAt w b z n r v) (o:Obj):RcAt (w.alloc o) b z n r v:=h.below ((Below.refl w.heap.size w).alloc Nl o) h.lt
end
theorem rcells_set {z:List Int} (hz:z.length=16) (n r:Int) (v u:Value):(rcells z n r v).setIfInBounds 18 u=rcells z n r u:=by
 unfold rcells;rw[Z2]
 congr 1
 rw[List.set_append_right _ _ (by simp[hz])];simp[hz]
theorem RcAt.put {w:World} {b:Nat} {z:List Int} {n r:Int} {v:Value} (h:RcAt w b z n r v) (u:Value):RcAt (w.setCell ⟨b,18,none⟩ u) b z n r u:=
 ⟨h.1,by rw[heap_setCell_same _ _ _ _ _ _ h.2,rcells_set h.1]⟩
theorem sizeRec:(Tryz.prog.info? 36).map (·.size)=some 19:=by kernel_rfl
theorem sizeID:(Tryz.prog.info? 31).map (·.size)=some 16:=by kernel_rfl
theorem load_rec {w:World} {b:Nat} {z:List Int} {n r:Int} {v:Value} (h:RcAt w b z n r v):(loadVar 36 ⟨b,0,none⟩).run Tryz.prog w=.ok (rv z n r v) w:=
 run_loadVar_row w b 36 36 _ (0,0) _ h.2 Tryz.underlying36 rfl (by rw[rcells_size h.1];exact sizeRec)
theorem Tta15 {p:Prop} (h:p:=by
  have hs:=sizeID;cases hq:Tryz.prog.info? 31 with
  | none=>simp[hq]at hs
  | some i=>
   have hs:i.size=16:=by simpa [hq] using hs
   have hagg:(isAgg 31).run Tryz.prog w=.ok true w:=by
    unfold isAgg;rw[Sem.run_bind,run_underlying Tryz.underlying31 w];simp
   simp[loadVar,Sem.run_bind,hagg,sizeOf,typeInfo,hq,hs,hl]
 ):p:=h
theorem load_id {w:World} {b:Nat} {z:List Int} {n r:Int} {v:Value} (h:RcAt w b z n r v):(loadVar 31 ⟨b,0,none⟩).run Tryz.prog w=.ok (.agg (bvals z)) w:=by
 have hl:(loadCells ⟨b,0,none⟩ 16).run Tryz.prog w=.ok (bvals z) w:=by
  have h1:=run_loadCells_list (P:=Tryz.prog) w ⟨b,0,none⟩ (z.map (Value.int .u8)) (fun j u hu=>by
   rw[Addr.add_lit,cell_of_row w b _ _ _ _ h.2,rcells,List.getElem?_toArray,List.getElem?_append_left (by simpa using (List.getElem?_eq_some_iff.1 hu).1)]
   simpa using hu)
  rw[List.length_map,h.1]at h1;exact h1
 exact Tta15
theorem eq_id {xs ys:List Int} (hx:AllBytes xs) (hy:AllBytes ys) (lx:xs.length=16) (ly:ys.length=16) (w:World):(Op.equalIn 10000 31 (.agg (bvals xs)) (.agg (bvals ys))).run Tryz.prog w=.ok (xs == ys) w:=by
 rw[bvals_u8 hx,bvals_u8 hy,← u8_inj hx hy];exact run_equalIn_bytes w 9998 31 5 16 Tryz.underlying31 Tryz.underlying5 (fun w=>sizeByte w) _ _ (by rw[List.length_map,lx]) (by rw[List.length_map,ly])
theorem wpList_load_by {P:Program} {ops:Array Oper} {rest:List Oper} {o:Oper} {a:Act} {w:World} {Q:Exit→Act→World→Prop} (hw:Region.wanted o (yielded ops a.tmps)=true) (ty:TypeId) (x:Operand) (ho:o.op=.load ty x)
  (ad:Addr) (hx:a.eval x=.pointer (some ad)) (v:Value) (hv:(loadVar ty ad).run P w=.ok v w)
  (h:wpList P ops Q rest (a.put o.dst v) w):wpList P ops Q (o::rest) a w:=
 BigFrame.wpList_want hw fun _ hK=>by
  unfold Oper.wp execOp;simp only[ho,hx,Instr.loadAt,Instr.sureAddr,Sem.run_bind,Sem.run_pure,Result.andThen_ok,hv];exact hK _ _ h
def FsAt (w:World) (A:Option Addr) (c:Nat) (fs:List Fld):Prop:=
 fs.length≤c∧c≤maxLen∧(A=none→c=0) ∧
 (0<fs.length→∃ b off,A=some ⟨b,off,none⟩∧b<w.heap.size∧∀ i,i<fs.length →
  w.cell? ⟨b,off+i*4,none⟩=some (.int .i64 (fs.getD i fld0).no)∧w.cell? ⟨b,off+i*4+1,none⟩=some (.int .i64 (fs.getD i fld0).c.n) ∧
  w.cell? ⟨b,off+i*4+2,none⟩=some (.int .i64 (fs.getD i fld0).c.r)∧w.cell? ⟨b,off+i*4+3,none⟩=some (.string (fs.getD i fld0).c.s))
theorem FsAt.below {w w':World} {B:Nat} {A:Option Addr} {c:Nat} {fs:List Fld} (h:FsAt w A c fs) (hb:Below B w w') (hB:w.heap.size≤B):FsAt w' A c fs:=by
 obtain⟨h1,h2,h3,h4⟩:=h;refine⟨h1,h2,h3,fun h0=>?_⟩;obtain⟨b,off,rfl,hlt,hc⟩:=h4 h0;have hbb:=hb.mono hB;refine⟨b,off,rfl,Nat.lt_of_lt_of_le hlt hbb.size,fun i hi=>?_⟩;obtain⟨c0,c1,c2,c3⟩:=hc i hi;exact⟨(hbb.cell (p:=⟨b,_,none⟩) hlt).trans c0,(hbb.cell (p:=⟨b,_,none⟩) hlt).trans c1,(hbb.cell (p:=⟨b,_,none⟩) hlt).trans c2,(hbb.cell (p:=⟨b,_,none⟩) hlt).trans c3⟩
theorem FsAt.nil (w:World) (A:Option Addr) (c:Nat) (hc:c≤maxLen) (h:A=none→c=0):FsAt w A c []:=⟨Nat.zero_le _,hc,h,fun h=>absurd h (by simp)⟩
theorem Tta46 {p:Prop} (h:p:=by
  simp only[List.flatMap_cons,Nat.zero_mul,Nat.zero_add,List.getD_cons_zero];rw[List.getElem?_append_left (by simp[Fld.cs];omega)]
 ):p:=h
theorem FsAt.own {w:World} {base c:Nat} {A:Option Addr} {fs:List Fld} (h:w.ownsRow base 59 4 (.slice A fs.length c) fs.length (fs.flatMap Fld.cs)):FsAt w A c fs:=by
 rcases h.2 with ⟨h1,h2⟩ | ⟨g,cap,cur,h1,hb,hg,hn,hm,hs,ht⟩
 ·simp only[Value.slice.injEq]at h1;obtain⟨rfl,h3,rfl⟩:=h1;exact⟨by omega,by decide,fun _=>rfl,fun h0=>by omega⟩
 ·simp only[Value.slice.injEq]at h1;obtain⟨rfl,_,rfl⟩:=h1;refine⟨hn,hm,fun h=>(by cases h),fun h0=>⟨g,0,rfl,(Array.getElem?_eq_some_iff.1 hg).1,fun i hi=>?_⟩⟩;have key:∀ j,j<4→w.cell? ⟨g,0+i*4+j,none⟩=(fs.getD i fld0).cs[j]?:=fun j hj=>by
   rw[cell_of_row w g _ cur _ (0,0) hg];have h2:(fs.flatMap Fld.cs)[i*4+j]?=(fs.getD i fld0).cs[j]?:=by
    clear ht h0 h hg hs hn
    induction fs generalizing i with
    | nil=>simp at hi
    | cons x fs ih=>
     cases i with
     | zero=>
      exact Tta46
     | succ i=>
      simp only[List.flatMap_cons,List.getD_cons_succ];rw[List.getElem?_append_right (by simp[Fld.cs];omega)];have e:(i+1)*4+j - x.cs.length=i*4+j:=by simp[Fld.cs];omega
      rw[e];exact ih i (by simpa using hi)
   rw[← h2,← ht,List.getElem?_take,if_pos (by omega)];simp
  have k0:=key 0 (by omega);have k1:=key 1 (by omega);have k2:=key 2 (by omega);have k3:=key 3 (by omega);exact⟨k0,k1,k2,k3⟩
theorem sizeFld (w:World):(sizeOf 59).run Tryz.prog w=.ok 4 w:=by
 simp[sizeOf,go_sem]
 rfl
theorem elemFld:Tryz.prog.elem 34=59:=by kernel_rfl
theorem ix_fld (b off len cap i:Nat) (h:i<len) (I:Int) (e:I=i) (w:World):(Instr.indexAt 34 (.slice (some ⟨b,off,none⟩) len cap) (.int .i64 I)).run Tryz.prog w=.ok (.pointer (some ⟨b,off+i*4,none⟩)) w:=by
 subst e;rw[run_indexAt_slice w 34 _ len cap .i64 i (by rw[elemFld];exact Tryz.underlying34),if_pos (by omega),elemFld,sizeFld];simp[Result.andThen,Addr.add_lit]
theorem res_cl2 {fn:Func} {p q:Tmp} (h:fn.results=#[.cell p 38,.tmp q]) {tmps:Array Value} {w:World} {b:Nat} {c:Cel} (hp:tmps.getD p undef=.pointer (some ⟨b,0,none⟩)) (hs:ClAt w b c):
  (results fn tmps).run Tryz.prog w=.ok (.tuple #[c.v,tmps.getD q undef]) w:=by
 have hp':tmps[p]?.getD undef=.pointer (some ⟨b,0,none⟩):=by simpa using hp
 simp[results,h,hp',asAddr,load_cl hs]
def FlAt (w:World) (b:Nat) (f:Fld):Prop:=w.heap[b]?=some (.cells #[.int .i64 f.no,.int .i64 f.c.n,.int .i64 f.c.r,.string f.c.s] 59)
theorem FlAt.c0 {w:World} {b:Nat} {f:Fld} (h:FlAt w b f):w.cell? ⟨b,0,none⟩=some (.int .i64 f.no):=by rw[cell_of_row _ _ _ _ _ _ h];rfl
theorem FlAt.c1 {w:World} {b:Nat} {f:Fld} (h:FlAt w b f):w.cell? ⟨b,1,none⟩=some (.int .i64 f.c.n):=by rw[cell_of_row _ _ _ _ _ _ h];rfl
theorem FlAt.c2 {w:World} {b:Nat} {f:Fld} (h:FlAt w b f):w.cell? ⟨b,2,none⟩=some (.int .i64 f.c.r):=by rw[cell_of_row _ _ _ _ _ _ h];rfl
theorem FlAt.c3 {w:World} {b:Nat} {f:Fld} (h:FlAt w b f):w.cell? ⟨b,3,none⟩=some (.string f.c.s):=by rw[cell_of_row _ _ _ _ _ _ h];rfl
theorem FlAt.fz {w:World} {b:Nat} {f:Fld} (h:FlAt w b f) (j:Nat):w.frozen? ⟨b,j,none⟩=false:=frozen_of_row _ _ _ _ _ h
theorem FlAt.lt {w:World} {b:Nat} {f:Fld} (h:FlAt w b f):b<w.heap.size:=by
 rcases Nat.lt_or_ge b w.heap.size with h1 | h1
 ·exact h1
 ·unfold FlAt at h;rw[Array.getElem?_eq_none h1]at h;cases h
theorem FlAt.below {w w':World} {b B:Nat} {f:Fld} (h:FlAt w b f) (hb:Below B w w') (hB:b<B):FlAt w' b f:=by
 unfold FlAt;rw[hb.block b hB];exact h
theorem FlAt.new (w:World) (f:Fld):FlAt (w.alloc (.cells #[.int .i64 f.no,.int .i64 f.c.n,.int .i64 f.c.r,.string f.c.s] 59)) w.heap.size f:=heap_alloc_new w _
theorem FlAt.old {w:World} {b:Nat} {f:Fld} (h:FlAt w b f) (o:Obj):FlAt (w.alloc o) b f:=h.below ((Below.refl w.heap.size w).alloc Nl o) h.lt
noncomputable instance:DecidableEq Fld:=fun _ _=>Classical.propDecidable _
theorem fl_same (a:Fld) (w:World):(Op.equalIn 10000 59 (.agg #[.int .i64 a.no,.int .i64 a.c.n,.int .i64 a.c.r,.string a.c.s]) (.agg #[.int .i64 a.no,.int .i64 a.c.n,.int .i64 a.c.r,.string a.c.s])).run Tryz.prog w=.ok true w:=by
 have h4:(a.c.s.toList == a.c.s.toList)=true:=(str_beq _ _).2 rfl;go_simp
theorem fl_if {a b:Fld} (h:¬ a=b) {α:Type} (x y:α):(if a.no=b.no then if a.c.n=b.c.n then if a.c.r=b.c.r then if a.c.s.toList=b.c.s.toList then x else y else y else y else y)=y:=by
 by_cases h1:a.no=b.no
 ·rw[if_pos h1];refine cl_if (a:=a.c) (b:=b.c) (fun e=>h ?_) x y;obtain⟨n,c⟩:=a;obtain⟨m,d⟩:=b;dsimp only at h1 e;rw[h1,e]
 ·rw[if_neg h1]
theorem lives_any (n r:Int) (c:Cel) (w:World):Calls Tryz.prog 91 #[st n r,c.v] w fun e w'=>e=.returned (.bool (stLess n r c.n c.r))∧Below w.heap.size w w':=by
 have HC:=Yy (stLess_any n r c.n c.r);have HB:=Yy (((Below.refl w.heap.size w).alloc Nl (.cells #[.int .i64 n,.int .i64 r] 33)).alloc (by simp) (.cells #[.int .i64 c.n,.int .i64 c.r,.string c.s] 38));unfold st Cel.v at *;go_enter Tryz.func91,Tryz.ntmps91;exact Tta33
end
end
end Go.Proofs.YtnlhkpmgbpfjmaaGreatDoor
