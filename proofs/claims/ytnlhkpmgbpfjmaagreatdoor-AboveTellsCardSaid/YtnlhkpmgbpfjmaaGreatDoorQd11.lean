import Derived.Test.YtnlhkpmgbpfjmaaGreatDoorQd10
/- What functions answer, part 11. -/
namespace Go.Proofs.YtnlhkpmgbpfjmaaGreatDoor
set_option linter.unusedVariables false
set_option linter.unusedSimpArgs false
set_option maxHeartbeats 16000000
set_option maxRecDepth 100000
section
section
open Go.RowKit WM
theorem rbless_any (xs ys:List Int) (w:World) (hx:AllBytes xs) (hy:AllBytes ys) (lx:xs.length=16) (ly:ys.length=16):
  Calls Tryz.prog 71 #[.agg (bvals xs),.agg (bvals ys)] w fun e w'=>e=.returned (.bool (lessL xs ys))∧Below w.heap.size w w':=by
 have hr0:=(BRow.new w 31 xs).old (.cells (bvals ys) 31);have hr1:=BRow.new (w.alloc (.cells (bvals xs) 31)) 31 ys;rw[World.size_alloc]at hr1;have hb0:Below w.heap.size w ((w.alloc (.cells (bvals xs) 31)).alloc (.cells (bvals ys) 31)):=((Below.refl _ _).alloc Nl _).alloc (by simp) _;have LX:=Yy lx;have LY:=Yy ly;have R0:=Yy hr0;have R1:=Yy hr1;have HB0:=Yy hb0;clear lx ly hx hy hr0 hr1 hb0;generalize hVX:bvals xs=VX at *;generalize hVY:bvals ys=VY at *;go_enter Tryz.func71,Tryz.ntmps71;go_wp2_with fail;go_loopw [5] (fun i wr=>∃ k:Nat,k≤16∧i=.int .i64 (k:Int)∧(∀ j,j<k→xs.getD j 0=ys.getD j 0)∧BRow wr w.heap.size 31 xs∧BRow wr (w.heap.size+1) 31 ys∧Below w.heap.size w wr) (fun i _=>17 - (intOf i).toNat)
 case atStart=>
  exact Tta91
 case round=>
  obtain⟨k,hk,rfl,hpre,hr0,hr1,hbel⟩:=hrel;have HPre:=Yy hpre;have Hr0:=Yy hr0;have Hr1:=Yy hr1;have Hbel:=Yy hbel;by_cases hlt:k<16
  ·exact Tta14
  ·exact Tta48
end
section
open Go.RowKit WM
theorem xrmay_any (x:RcA) (w:World) (h:RvAt w x) (hl:x.R.fs.length≤1000):Calls Tryz.prog 37 #[.agg x.cells] w fun e w'=>e=.returned (.bool x.R.may)∧Below w.heap.size w w':=
 rrmay_any x.R.z x.R.n x.R.r x.A _ x.c x.R.fs w h.len rfl hl h.2
theorem rbmay_any (b:Bk) (w:World) (h:BkAt w b) (hfs:∀ x∈b.xs,x.R.fs.length≤1000) (hbl:b.xs.length≤1000):
  Calls Tryz.prog 35 #[.agg #[.slice b.A b.xs.length b.c]] w fun e w'=>e=.returned (.bool (bmay b.rs))∧Below w.heap.size w w':=by
 obtain⟨xs,A,c⟩:=b;dsimp only at hfs hbl ⊢;have S0:=Yy (BoAt.new w (.slice A xs.length c));have HB:=Yy ((Below.refl w.heap.size w).alloc Nl (.cells #[.slice A xs.length c] 24));have HRV:=Yy (fun i (hi:i<xs.length)=>RsAt.rv h hi);have HFS:Hid (∀ i,i<xs.length→(xs.getD i rcA0).R.fs.length≤1000):=Yy (fun i hi=>hfs _ (by rw[List.getD_eq_getElem?_getD,List.getElem?_eq_getElem hi];exact List.getElem_mem _));obtain⟨hc1,hc2,hc3,hcell,_⟩:=h;dsimp only at hc1 hc2 hc3 hcell HRV;simp only[maxLen]at hc2;have HC:=Yy hcell;have HV:Hid (bmay (Bk.rs ⟨xs,A,c⟩)=(decide (xs.length≤10) && okB (prevZ xs 0) ((xs.drop 0).map (·.R)))):=Yy (by unfold bmay Bk.rs;rw[List.length_map];rfl);clear hcell hfs;generalize bmay (Bk.rs ⟨xs,A,c⟩)=V at HV ⊢;generalize hlen:xs.length=len at *;have HLN:=Yy hlen;clear hlen;go_enter Tryz.func35,Tryz.ntmps35;go_wp2;go_loopw [3] (fun i wr=>∃ k:Nat,k≤len∧i=.int .i64 k∧BoAt wr w.heap.size (.slice A len c)∧Below w.heap.size w wr∧V=(decide (len≤10) && okB (prevZ xs k) ((xs.drop k).map (·.R)))) (fun i _=>len - (intOf i).toNat)
 case atStart=>exact⟨0,Nat.zero_le _,rfl,S0.out,HB.out,HV.out⟩
 case round=>
  obtain⟨k,hk,rfl,hs,hb,hf⟩:=hrel;have s0:=hs.c0;by_cases hlt:k<len
  ·obtain⟨b0,off,rfl,hb0,hcc⟩:=HC.out (by omega);have hx:=(hcc k hlt).same (hb.block b0 hb0);have IX:=ix_rec b0 off len c k hlt k rfl;have HXV:=Yy ((HRV.out k hlt).below hb Nl);have HXF:=Yy (HFS.out k hlt);rw[okB_drop _ (by rw[HLN.out];exact hlt),← prevZ_succ]at hf;have HBS:=Yy (And.intro hs hb);have hb02:=Nat.lt_of_lt_of_le hb0 hb.size;have LX:=Yy hx.load;have HY:Hid (0<k→∃ y:RcA,prevZ xs k=some y.R.z∧RvAt wr y∧RecAt wr b0 (off+(k - 1)*19) y):=Yy (fun h0=>⟨xs.getD (k - 1) rcA0,by unfold prevZ;rw[if_neg (by omega)],(HRV.out (k - 1) (by omega)).below hb Nl,(hcc (k - 1) (by omega)).same (hb.block b0 hb0)⟩);generalize xs.getD k rcA0=x at *;generalize hpzq:prevZ xs (k+1)=pz at *;have HPQ:=Yy hpzq;generalize hox:off+k*19=ox at *;have HX:=Yy hx;have HM:=xrmay_any x wr HXV.out HXF.out;clear hcc hs hb hx hox hpzq;cases hm:x.R.may
   ·rw[hm]at hf HM;simp only[Bool.false_and,Bool.and_false]at hf;have HF:=Yy hf;have HM:=Yy HM;clear hf hm;go_wp2_with (first | ((with_reducible refine YyL 36 (.tmp 16) ⟨b0,ox,none⟩ LX.out ?_ ?_ ?_);rfl;rfl));refine HM.out.mono ?_;rintro e w2 ⟨rfl,hb2⟩;have B2:=Yy (HBS.out.1.below hb2 HBS.out.1.lt);have HB2:=Yy (HBS.out.2.trans (hb2.mono HBS.out.2.size));have X2:=Yy (HX.out.same (hb2.block b0 hb02));go_wp2;go_ret;exact⟨by rw[HF.out];rfl,HB2.out⟩
   ·rw[hm]at hf HM;simp only[Bool.true_and]at hf;have HM:=Yy HM;clear hm;by_cases h0:k=0
    ·have HF:=Yy (show V=(decide (len≤10) && okB pz ((xs.drop (k+1)).map (·.R))) by rw[hf,prevZ,if_pos h0];rfl);have t3:¬ (0:Int)<(k:Int):=by omega
     clear hf h0;go_wp2_with (first | ((with_reducible refine YyL 36 (.tmp 16) ⟨b0,ox,none⟩ LX.out ?_ ?_ ?_);rfl;rfl));refine HM.out.mono ?_;rintro e w2 ⟨rfl,hb2⟩;have B2:=Yy (HBS.out.1.below hb2 HBS.out.1.lt);have HB2:=Yy (HBS.out.2.trans (hb2.mono HBS.out.2.size));have X2:=Yy (HX.out.same (hb2.block b0 hb02));clear hb2 s0;go_wp2;go_roundw
     case rel=>exact⟨k+1,by omega,by go_num,B2.out,HB2.out,by rw[HPQ.out];exact HF.out⟩
     case measure=>simp[intOf];omega
    ·obtain⟨y,hpy,hyv,hya⟩:=HY.out (by omega);rw[hpy,pzok]at hf;have t3:(0:Int)<(k:Int):=by omega
     have IXY:=Yy (fun w9=>ix_rec b0 off len c (k - 1) (by omega) ((k:Int) - 1) (by omega) w9);have HYV:=Yy hyv;generalize hoy:off+(k - 1)*19=oy at *;have HYA:=Yy hya;have HL0:=fun (w9:World)=>rbless_any y.R.z x.R.z w9 HYV.out.1.2 HXV.out.1.2 HYV.out.len HXV.out.len;clear hoy hyv hya hpy;cases hl:lessL y.R.z x.R.z
     ·rw[hl]at hf HL0;simp only[Bool.false_and,Bool.and_false]at hf;have HF:=Yy hf;clear hf hl;go_wp2_with (first | ((with_reducible refine YyL 36 (.tmp 16) ⟨b0,ox,none⟩ LX.out ?_ ?_ ?_);rfl;rfl));refine HM.out.mono ?_;rintro e w2 ⟨rfl,hb2⟩;have B2:=Yy (HBS.out.1.below hb2 HBS.out.1.lt);have HB2:=Yy (HBS.out.2.trans (hb2.mono HBS.out.2.size));have X2:=Yy (HX.out.same (hb2.block b0 hb02));have Y2:=Yy (HYA.out.same (hb2.block b0 hb02));have hb02:=Nat.lt_of_lt_of_le hb02 hb2.size;have HL:=Yy (fun (w9:World) (hS:Below w2.heap.size w2 w9)=>HL0 w9);clear hb2 s0;go_wp2_with fail;refine wp_region_G _ (by kernel_rfl) ?_;refine YGa 0 (some 23) rfl ?_;refine YGb 1 (some 24) rfl (fun w9 hSw=>(B2.out.below hSw B2.out.lt).c0) ?_;refine YGa 2 (some 25) rfl ?_;refine YGd 3 (some 26) _ rfl (fun w9 hSw=>by have x1:IntKind.i64.wrap ((k:Int) - 1)=(k:Int) - 1:=IntWalk.i64_in _ (by omega);go_simp;try with_reducible rfl) ?_;refine YGb 4 (some 27) rfl (fun w9 hSw=>IXY.out w9) ?_;refine YGa 5 (some 28) rfl ?_;refine YGd 6 (some 29) (.agg (bvals y.R.z)) rfl (fun w9 hSw=>by exact exec_load_by 31 _ rfl ⟨b0,oy,none⟩ rfl (Y2.out.same (hSw.block b0 hb02)).load_id) ?_;refine YGa 7 (some 30) rfl ?_;refine YGb 8 (some 31) rfl (fun w9 hSw=>(B2.out.below hSw B2.out.lt).c0) ?_;refine YGa 9 (some 32) rfl ?_;refine YGb 10 (some 33) rfl (fun w9 hSw=>IX w9) ?_;refine YGa 11 (some 34) rfl ?_
      refine YGd 12 (some 35) (.agg (bvals x.R.z)) rfl (fun w9 hSw=>by exact exec_load_by 31 _ rfl ⟨b0,ox,none⟩ rfl (X2.out.same (hSw.block b0 hb02)).load_id) ?_;refine YGj 13 (some 36) rfl HL.out ?_;refine YGa 14 (some 5) rfl ?_;exact Ttb16
     ·rw[hl]at hf HL0;simp only[Bool.true_and]at hf;have HF:=Yy hf;clear hf hl;go_wp2_with (first | ((with_reducible refine YyL 36 (.tmp 16) ⟨b0,ox,none⟩ LX.out ?_ ?_ ?_);rfl;rfl));refine HM.out.mono ?_;rintro e w2 ⟨rfl,hb2⟩;have B2:=Yy (HBS.out.1.below hb2 HBS.out.1.lt);have HB2:=Yy (HBS.out.2.trans (hb2.mono HBS.out.2.size));have X2:=Yy (HX.out.same (hb2.block b0 hb02));have Y2:=Yy (HYA.out.same (hb2.block b0 hb02));have hb02:=Nat.lt_of_lt_of_le hb02 hb2.size;have HL:=Yy (fun (w9:World) (hS:Below w2.heap.size w2 w9)=>HL0 w9);clear hb2 s0;go_wp2_with fail;refine wp_region_G _ (by kernel_rfl) ?_;refine YGa 0 (some 23) rfl ?_;refine YGb 1 (some 24) rfl (fun w9 hSw=>(B2.out.below hSw B2.out.lt).c0) ?_;refine YGa 2 (some 25) rfl ?_;refine YGd 3 (some 26) _ rfl (fun w9 hSw=>by have x1:IntKind.i64.wrap ((k:Int) - 1)=(k:Int) - 1:=IntWalk.i64_in _ (by omega);go_simp;try with_reducible rfl) ?_;refine YGb 4 (some 27) rfl (fun w9 hSw=>IXY.out w9) ?_;refine YGa 5 (some 28) rfl ?_;refine YGd 6 (some 29) (.agg (bvals y.R.z)) rfl (fun w9 hSw=>by exact exec_load_by 31 _ rfl ⟨b0,oy,none⟩ rfl (Y2.out.same (hSw.block b0 hb02)).load_id) ?_;refine YGa 7 (some 30) rfl ?_;refine YGb 8 (some 31) rfl (fun w9 hSw=>(B2.out.below hSw B2.out.lt).c0) ?_;refine YGa 9 (some 32) rfl ?_;refine YGb 10 (some 33) rfl (fun w9 hSw=>IX w9) ?_;refine YGa 11 (some 34) rfl ?_
      refine YGd 12 (some 35) (.agg (bvals x.R.z)) rfl (fun w9 hSw=>by exact exec_load_by 31 _ rfl ⟨b0,ox,none⟩ rfl (X2.out.same (hSw.block b0 hb02)).load_id) ?_;refine YGj 13 (some 36) rfl HL.out ?_;refine YGa 14 (some 5) rfl ?_;exact Ttb10
  ·obtain rfl:k=len:=by omega
   rw[List.drop_eq_nil_of_le (by rw[HLN.out];exact Nat.le_refl _),List.map_nil,okB,Bool.and_true]at hf;have t1:¬ (k:Int)<(k:Int):=by omega
   have HF:=Yy (show V=decide ((k:Int)≤10) by rw[hf,decide_eq_decide];omega);have HBB:=Yy hb;clear hf hb hs;go_wp2;go_ret;exact⟨by rw[HF.out];first | rfl | (simp;done) | (simp;omega),HBB.out⟩
end
section
open Go.RowKit WM
theorem xrsame_any (x y:RcA) (w:World) (h:RvAt w x) (k:RvAt w y) (hl:x.R.fs.length≤1000):Calls Tryz.prog 44 #[.agg x.cells,.agg y.cells] w fun e w'=>e=.returned (.bool (x.R.same y.R))∧Below w.heap.size w w':=
 rrsame_any x.R.z x.R.n x.R.r x.A _ x.c x.R.fs y.R.z y.R.n y.R.r y.A _ y.c y.R.fs w h.len k.len h.1.2 k.1.2 rfl rfl hl h.2 k.2
theorem rbsame_any (a b:Bk) (w:World) (h1:BkAt w a) (h2:BkAt w b) (hfs:∀ x∈a.xs,x.R.fs.length≤1000) (hbl:a.xs.length≤1000):
  Calls Tryz.prog 18 #[.agg #[.slice a.A a.xs.length a.c],.agg #[.slice b.A b.xs.length b.c]] w fun e w'=>e=.returned (.bool (bsame a.rs b.rs))∧Below w.heap.size w w':=by
 obtain⟨xs,A,c⟩:=a;obtain⟨ys,B,d⟩:=b;unfold BkAt at h1 h2;dsimp only at h1 h2 hfs hbl ⊢;have S1:=Yy ((BoAt.new w (.slice A xs.length c)).old (.cells #[.slice B ys.length d] 24));have s2:=BoAt.new (w.alloc (.cells #[.slice A xs.length c] 24)) (.slice B ys.length d);rw[World.size_alloc]at s2;have S2:=Yy s2;have HB:=Yy (((Below.refl w.heap.size w).alloc Nl (.cells #[.slice A xs.length c] 24)).alloc (by simp) (.cells #[.slice B ys.length d] 24));have HR1:=Yy (fun i (hi:i<xs.length)=>RsAt.rv h1 hi);have HR2:=Yy (fun i (hi:i<ys.length)=>RsAt.rv h2 hi);have HFS:Hid (∀ i,i<xs.length→(xs.getD i rcA0).R.fs.length≤1000):=Yy (fun i hi=>hfs _ (by rw[List.getD_eq_getElem?_getD,List.getElem?_eq_getElem hi];exact List.getElem_mem _));obtain⟨hc1,hm1,hn1,hcell1,_⟩:=h1;obtain⟨hc2,hm2,hn2,hcell2,_⟩:=h2;simp only[maxLen]at hm1 hm2;have HC1:=Yy hcell1;have HC2:=Yy hcell2;unfold Bk.rs;dsimp only;have HV:=Yy (show bsame (xs.map (·.R)) (ys.map (·.R))=bsame ((xs.drop 0).map (·.R)) ((ys.drop 0).map (·.R)) by rw[List.drop_zero,List.drop_zero]);have HNE:Hid (¬ xs.length=ys.length→bsame (xs.map (·.R)) (ys.map (·.R))=false):=Yy (fun hne=>by
  cases h:bsame (xs.map (·.R)) (ys.map (·.R)) with
  | false=>rfl
  | true=>
   have h2:=congrArg List.length (bsame_iff.1 h);rw[List.length_map,List.length_map]at h2;exact absurd h2 hne)
 generalize bsame (xs.map (·.R)) (ys.map (·.R))=V at HV HNE ⊢;have s1:=S1.out.c0;have s2:=S2.out.c0;clear hcell1 hcell2 hfs hn1 hn2;by_cases hl:xs.length=ys.length
 ·clear HNE;generalize hl1:xs.length=len at *;generalize hl2:ys.length=len2 at *;subst hl;have HL1:=Yy hl1;have HL2:=Yy hl2;clear hl1 hl2;go_enter Tryz.func18,Tryz.ntmps18;go_wp2;clear s1 s2;go_loopw [5] (fun i wr=>∃ k:Nat,k≤len∧i=.int .i64 k∧BoAt wr w.heap.size (.slice A len c)∧BoAt wr (w.heap.size+1) (.slice B len d)∧Below w.heap.size w wr∧V=bsame ((xs.drop k).map (·.R)) ((ys.drop k).map (·.R))) (fun i _=>len - (intOf i).toNat)
  case atStart=>exact⟨0,Nat.zero_le _,rfl,S1.out,S2.out,HB.out,HV.out⟩
  case round=>
   obtain⟨k,hk,rfl,ha,hbb,hb,hf⟩:=hrel;have s1:=ha.c0;have s2:=hbb.c0;by_cases hlt:k<len
   ·obtain⟨b1,off1,hA1,hB1,hcc1⟩:=HC1.out (by omega);obtain⟨b2,off2,hA2,hB2,hcc2⟩:=HC2.out (by omega);have hx:=(hcc1 k hlt).same (hb.block b1 hB1);have hy:=(hcc2 k hlt).same (hb.block b2 hB2);have IX1:=ix_rec b1 off1 len c k hlt k rfl;have IX2:=ix_rec b2 off2 len d k hlt k rfl;have hvx:=(HR1.out k hlt).below hb Nl;have hvy:=(HR2.out k hlt).below hb Nl;have hb12:=Nat.lt_of_lt_of_le hB1 hb.size;have hb22:=Nat.lt_of_lt_of_le hB2 hb.size;rw[bsame_drop (xs:=xs) (ys:=ys) (k:=k) (by rw[HL1.out];exact hlt) (by rw[HL2.out];exact hlt)]at hf;have hxf:=HFS.out k hlt;generalize xs.getD k rcA0=x at *;generalize ys.getD k rcA0=y at *;generalize off1+k*19=o1 at *;generalize off2+k*19=o2 at *;have HX:=Yy hx;have HY:=Yy hy;have HS0:=fun (w9:World) (hS:Below wr.heap.size wr w9)=>xrsame_any x y w9 (hvx.below hS Nl) (hvy.below hS Nl) hxf;have HBS:=Yy (And.intro ha (And.intro hbb hb));clear hcc1 hcc2 hx hy hvx hvy hb ha hbb hxf;rw[hA1]at s1 HBS;rw[hA2]at s2 HBS;cases hs:x.R.same y.R
    ·rw[hs]at hf HS0;simp only[Bool.false_and]at hf;have HF:=Yy hf;have HS:=Yy HS0;clear hs hf HS0;go_wp2_with fail;refine wp_region_G _ (by kernel_rfl) ?_;refine YGa 0 (some 21) rfl ?_;refine YGb 1 (some 22) rfl (fun w9 hSw=>(HBS.out.1.below hSw HBS.out.1.lt).c0) ?_;refine YGa 2 (some 23) rfl ?_;refine YGb 3 (some 24) rfl (fun w9 hSw=>IX1 w9) ?_;refine YGd 4 (some 25) (.agg x.cells) rfl (fun w9 hSw=>by exact exec_load_by 36 _ rfl ⟨b1,o1,none⟩ rfl (HX.out.same (hSw.block b1 hb12)).load) ?_;refine YGa 5 (some 26) rfl ?_;refine YGb 6 (some 27) rfl (fun w9 hSw=>(HBS.out.2.1.below hSw HBS.out.2.1.lt).c0) ?_;refine YGa 7 (some 28) rfl ?_;refine YGb 8 (some 29) rfl (fun w9 hSw=>IX2 w9) ?_;refine YGd 9 (some 30) (.agg y.cells) rfl (fun w9 hSw=>by exact exec_load_by 36 _ rfl ⟨b2,o2,none⟩ rfl (HY.out.same (hSw.block b2 hb22)).load) ?_;refine YGj 10 (some 31) rfl HS.out ?_;refine YGa 11 (some 6) rfl ?_;refine wpG_done (by kernel_rfl) ?_ _;intro w9 hSw _;have A9:=HBS.out.1.below hSw HBS.out.1.lt;have B9:=HBS.out.2.1.below hSw HBS.out.2.1.lt;have W9:=HBS.out.2.2.trans (hSw.mono HBS.out.2.2.size);rw[← hA1]at A9;rw[← hA2]at B9;have A9:=Yy A9;have B9:=Yy B9;have W9:=Yy W9;clear hSw s1 s2;go_wp2;go_ret;exact⟨by rw[HF.out];rfl,W9.out⟩
    ·rw[hs]at hf HS0;simp only[Bool.true_and]at hf;have HF:=Yy hf;have HS:=Yy HS0;clear hs hf HS0;go_wp2_with fail;refine wp_region_G _ (by kernel_rfl) ?_;refine YGa 0 (some 21) rfl ?_;refine YGb 1 (some 22) rfl (fun w9 hSw=>(HBS.out.1.below hSw HBS.out.1.lt).c0) ?_;refine YGa 2 (some 23) rfl ?_;refine YGb 3 (some 24) rfl (fun w9 hSw=>IX1 w9) ?_;refine YGd 4 (some 25) (.agg x.cells) rfl (fun w9 hSw=>by exact exec_load_by 36 _ rfl ⟨b1,o1,none⟩ rfl (HX.out.same (hSw.block b1 hb12)).load) ?_;refine YGa 5 (some 26) rfl ?_;refine YGb 6 (some 27) rfl (fun w9 hSw=>(HBS.out.2.1.below hSw HBS.out.2.1.lt).c0) ?_;refine YGa 7 (some 28) rfl ?_;refine YGb 8 (some 29) rfl (fun w9 hSw=>IX2 w9) ?_;refine YGd 9 (some 30) (.agg y.cells) rfl (fun w9 hSw=>by exact exec_load_by 36 _ rfl ⟨b2,o2,none⟩ rfl (HY.out.same (hSw.block b2 hb22)).load) ?_;refine YGj 10 (some 31) rfl HS.out ?_;refine YGa 11 (some 6) rfl ?_;refine wpG_done (by kernel_rfl) ?_ _;intro w9 hSw _;have A9:=HBS.out.1.below hSw HBS.out.1.lt;have B9:=HBS.out.2.1.below hSw HBS.out.2.1.lt;have W9:=HBS.out.2.2.trans (hSw.mono HBS.out.2.2.size);rw[← hA1]at A9;rw[← hA2]at B9;have A9:=Yy A9;have B9:=Yy B9;have W9:=Yy W9;clear hSw s1 s2;go_wp2;go_roundw
     case rel=>exact⟨k+1,by omega,by go_num,A9.out,B9.out,W9.out,HF.out⟩
     case measure=>simp[intOf];omega
   ·obtain rfl:k=len:=by omega
    rw[List.drop_eq_nil_of_le (by rw[HL1.out];exact Nat.le_refl _),List.drop_eq_nil_of_le (by rw[HL2.out];exact Nat.le_refl _)]at hf;have t1:¬ (k:Int)<(k:Int):=by omega
    have HF:=Yy hf;have HBB:=Yy hb;clear hf hb;go_wp2;go_ret;exact⟨by rw[HF.out];rfl,HBB.out⟩
 ·have HF:=Yy (HNE.out hl);have hne:¬ (xs.length:Int)=(ys.length:Int):=by omega
  clear HNE HV;generalize xs.length=l1 at *;generalize ys.length=l2 at *;go_enter Tryz.func18,Tryz.ntmps18;go_wp2;go_ret;exact⟨by rw[HF.out];rfl,HB.out⟩
end
end
section
open Go.RowKit WM
def prevA (ls:List LnA) (k:Nat):Option (List Int):=if k=0 then none else some (ls.getD (k - 1) lnA0).z
theorem lsOk_step {ls:List LnA} {k:Nat} (hk:k<ls.length):lsOk (prevA ls k) ((ls.drop k).map (·.x))=(lnOk (ls.getD k lnA0).x && (riseOk (prevA ls k) (ls.getD k lnA0).z && lsOk (prevA ls (k+1)) ((ls.drop (k+1)).map (·.x)))):=by
 rw[List.drop_eq_getElem_cons hk,List.map_cons];have h:ls.getD k lnA0=ls[k]:=by rw[List.getD_eq_getElem?_getD,List.getElem?_eq_getElem hk];rfl
 have h2:prevA ls (k+1)=some ls[k].z:=by unfold prevA;rw[if_neg (by omega),Nat.add_sub_cancel,h]
 rw[h,h2];simp only[lsOk];rw[Bool.and_assoc]
 rfl
def lastA (es:List EnA) (j:Nat):Int:=if j=0 then -1 else (es.getD (j - 1) enA0).e.no
theorem esOk_step {n r:Int} {es:List EnA} {j:Nat} (hj:j<es.length):esOk n r (lastA es j) ((es.drop j).map (·.e))=(enOk n r (lastA es j) (es.getD j enA0).e && esOk n r (lastA es (j+1)) ((es.drop (j+1)).map (·.e))):=by
 rw[List.drop_eq_getElem_cons hj,List.map_cons];have h:es.getD j enA0=es[j]:=by rw[List.getD_eq_getElem?_getD,List.getElem?_eq_getElem hj];rfl
 have h2:lastA es (j+1)=es[j].e.no:=by unfold lastA;rw[if_neg (by omega),Nat.add_sub_cancel,h]
 rw[h,h2]
 rfl
theorem ln_size {x:LnA} {w:World} (h:x.Ok w):(Tryz.prog.info? 63).map (·.size)=some (KLn.cs x).toArray.size:=by
 rw[List.size_toArray,show (KLn.cs x).length=19 from LnA.len h];obtain⟨i,hi,_,hs,_⟩:=info_parts infoLn;rw[hi];exact congrArg some hs
theorem ln_ones (x:LnA):(KLn.cs x).toArray.all (·.oneCell')=true:=by
 rw[Array.all_eq_true_iff_forall_mem];intro u hu;exact LnA.one x u (List.mem_toArray.1 hu)
theorem lnA0_size:(KLn.cs lnA0).toArray.size=19:=by decide
theorem Ttb9 {p:Prop} (h:p:=by
  obtain rfl:j=M:=by omega
  have t3:¬ (j:Int)<(j:Int):=by omega
  have HF:=Yy (show V=(rest && decide (n≤10)) by rw[hf2,List.drop_eq_nil_of_le (by rw[HM.out];exact Nat.le_refl _)];rfl);have B10:=Yy (B3.out.trans (hb2.mono B3.out.size));clear hf2 hb2;go_wp2;go_roundw
  case rel=>exact⟨k+1,by omega,by go_num,B10.out,by rw[HRST.out];exact HF.out⟩
  case measure=>simp[intOf];omega
 ):p:=h
theorem Tta17 {p:Prop} (h:p:=by
  go_loopw [7,8] (fun u7 u8 wr=>∃ j:Nat,j≤M∧u7=.int .i64 (lastA es j)∧u8=.int .i64 j∧Below w3.heap.size w3 wr∧V=((esOk dn dr (lastA es j) ((es.drop j).map (·.e)) && rest) && decide (n≤10))) (fun _ i _=>M - (intOf i).toNat)
  case atStart=>exact⟨0,Nat.zero_le _,rfl,rfl,BX0.out,HE0.out⟩
  case round=>
   obtain⟨j,hj,rfl,rfl,hb2,hf2⟩:=hrel;have HB2:=Yy hb2;have s18:=F18.out _ hb2;by_cases hjt:j<M
   ·omega
   ·exact Ttb9
 ):p:=h
theorem Tta15 {p:Prop} (h:p:=by
  refine wp_region_G _ (by kernel_rfl) ?_;refine YGa 0 (some 41) rfl ?_;refine YGb 1 (some 42) rfl (fun w9 hSw=>HS32.out w9 hSw) ?_;refine YGa 2 (some 43) rfl ?_;refine YGd 3 (some 44) _ rfl (fun w9 hSw=>by have x1:IntKind.i64.wrap ((k:Int) - 1)=(k:Int) - 1:=IntWalk.i64_in _ (by omega);go_simp;try with_reducible rfl) ?_;refine YGb 4 (some 45) rfl (fun w9 hSw=>IXP.out w9) ?_;refine YGa 5 (some 46) rfl ?_;refine YGd 6 (some 47) (.agg (bvals pz)) rfl (fun w9 hSw=>by exact exec_load_at 31 _ rfl _ rfl (load_idM (LP.out w9 hSw) HPZ.out)) ?_;refine YGa 7 (some 48) rfl ?_;refine YGd 8 (some 49) (.agg (bvals z)) rfl (fun w9 hSw=>by exact exec_load_at 31 _ rfl _ rfl (load_idM (LZ.out w9 hSw) HZ16.out)) ?_;refine YGk 9 (some 50) rfl HLE.out ?_;refine YGa 10 (some 6) rfl ?_;refine wpG_done (by kernel_rfl) ?_ _;intro w9 hSw _;have B10:=Yy (HB1.out.trans ((B3.out.trans (hSw.mono B3.out.size)).mono HB1.out.size));clear hSw A16 A17 A18;go_wp2;go_ret;exact⟨by rw[HF.out];try rfl,B10.out⟩
 ):p:=h
theorem Tta3 {p:Prop} (h:p:=by
  go_loopw [7,8] (fun u7 u8 wr=>∃ j:Nat,j≤M∧u7=.int .i64 (lastA es j)∧u8=.int .i64 j∧Below w3.heap.size w3 wr∧V=((esOk dn dr (lastA es j) ((es.drop j).map (·.e)) && rest) && decide (n≤10))) (fun _ i _=>M - (intOf i).toNat)
  case atStart=>exact⟨0,Nat.zero_le _,rfl,rfl,BX0.out,HE0.out⟩
  case round=>
   obtain⟨j,hj,rfl,rfl,hb2,hf2⟩:=hrel;have HB2:=Yy hb2;have s18:=F18.out _ hb2;by_cases hjt:j<M
   ·have t3:(j:Int)<(M:Int):=by omega
    obtain⟨b2,off2,hA2,hb2w,hx2,hi2⟩:=HE.out (by omega);have IX2:=Yy (hi2 j hjt j rfl);rw[← hA2]at IX2;have Q2:=Yy (hx2 j hjt);have HB2W:=Yy hb2w;have HSAME:=Yy (fun w9 (h9:Below wr.heap.size wr w9) b (hb9:b<w1.heap.size)=>(B3.out.trans ((hb2.trans (h9.mono hb2.size)).mono B3.out.size)).block b hb9);have hokE:=HEO.out j hjt;have HYO:=Yy (fun w9 (h9:Below wr.heap.size wr w9)=>EnA.below hokE ((B3.out.trans ((hb2.trans (h9.mono hb2.size)).mono B3.out.size)).mono Nl));have HX18:=Yy (fun w9 (h9:Below wr.heap.size wr w9)=>F18.out w9 (hb2.trans (h9.mono hb2.size)));have HX16:=Yy (fun w9 (h9:Below wr.heap.size wr w9)=>F16.out w9 (hb2.trans (h9.mono hb2.size)));have HX17:=Yy (fun w9 (h9:Below wr.heap.size wr w9)=>F17.out w9 (hb2.trans (h9.mono hb2.size)));rw[HES.out j hjt]at hf2;have HLA:=Yy (show lastA es (j+1)=(es.getD j enA0).e.no by unfold lastA;rw[if_neg (by omega),Nat.add_sub_cancel]);generalize lastA es j=L at *;generalize es.getD j enA0=y at *;have HEN:=Yy (fun w9 (h9:Below wr.heap.size wr w9)=>rentry_any y L dn dr w9 (HYO.out w9 h9));rw[show KEn.v y=.agg (KEn.cs y).toArray from rfl]at HEN;unfold st at HEN;have HF2:=Yy hf2;have HC0:=Yy (fun w9 (h9:Below wr.heap.size wr w9)=>by have h:=en_c0 (Kind.at_same Q2.out (HSAME.out w9 h9 _ HB2W.out));exact h);clear hx2 hi2 hA2 hokE hf2 hb2 hb2w;generalize enOk dn dr L y.e=b9 at *;cases b9
    ·have HF:=Yy (show V=false by rw[HF2.out];rfl);clear HF2;go_wp2_with fail;refine wp_region_G _ (by kernel_rfl) ?_;refine YGa 0 (some 60) rfl ?_;refine YGb 1 (some 61) rfl (fun w9 hSw=>HX18.out w9 hSw) ?_;refine YGa 2 (some 62) rfl ?_;refine YGb 3 (some 63) rfl (fun w9 hSw=>IX2.out w9) ?_;refine YGd 4 (some 64) (.agg (KEn.cs y).toArray) rfl (fun w9 hSw=>by exact exec_load_at 68 _ rfl _ rfl (load_en (Kind.at_same Q2.out (HSAME.out w9 hSw _ HB2W.out)) (HYO.out w9 hSw))) ?_;refine YGa 5 (some 65) rfl ?_;refine YGa 6 (some 66) rfl ?_;refine YGc 7 (some 67) rfl (fun w9 hSw=>HX16.out w9 hSw) (fun w9 hSw=>HX17.out w9 hSw) ?_;refine YGj 8 (some 68) rfl HEN.out ?_;refine YGa 9 (some 9) rfl ?_;refine wpG_done (by kernel_rfl) ?_ _;intro w9 hSw _;have B10:=Yy (HB1.out.trans ((B3.out.trans ((HB2.out.trans (hSw.mono HB2.out.size)).mono B3.out.size)).mono HB1.out.size));clear hSw s18;go_wp2;go_ret;exact⟨by rw[HF.out];try rfl,B10.out⟩
    ·have HF:=Yy (show V=((esOk dn dr (lastA es (j+1)) ((es.drop (j+1)).map (·.e)) && rest) && decide (n≤10)) by rw[HF2.out];rfl);clear HF2;go_wp2_with fail;refine wp_region_G _ (by kernel_rfl) ?_;refine YGa 0 (some 60) rfl ?_;refine YGb 1 (some 61) rfl (fun w9 hSw=>HX18.out w9 hSw) ?_;refine YGa 2 (some 62) rfl ?_;refine YGb 3 (some 63) rfl (fun w9 hSw=>IX2.out w9) ?_;refine YGd 4 (some 64) (.agg (KEn.cs y).toArray) rfl (fun w9 hSw=>by exact exec_load_at 68 _ rfl _ rfl (load_en (Kind.at_same Q2.out (HSAME.out w9 hSw _ HB2W.out)) (HYO.out w9 hSw))) ?_;refine YGa 5 (some 65) rfl ?_;refine YGa 6 (some 66) rfl ?_;refine YGc 7 (some 67) rfl (fun w9 hSw=>HX16.out w9 hSw) (fun w9 hSw=>HX17.out w9 hSw) ?_;refine YGj 8 (some 68) rfl HEN.out ?_;refine YGa 9 (some 9) rfl ?_;refine wpG_done (by kernel_rfl) ?_ _;intro w9 hSw _;have B10:=Yy (HB2.out.trans (hSw.mono HB2.out.size));have s18:=HX18.out w9 hSw;have ix2:=IX2.out w9;have c0:=HC0.out w9 hSw;clear hSw;go_wp2;go_roundw
     case rel=>exact⟨j+1,by omega,by rw[HLA.out],by go_num,B10.out,HF.out⟩
     case measure=>simp[intOf];omega
   ·exact Ttb9
 ):p:=h
theorem rmay12_any (m:MnA) (w:World) (h:m.Ok w):Calls Tryz.prog 41 #[m.v] w fun e w'=>e=.returned (.bool (mmay m.m))∧Below w.heap.size w w':=by
 have HV:=Yy (show mmay m.m=(lsOk (prevA m.ls 0) ((m.ls.drop 0).map (·.x)) && decide (m.ls.length≤10)) by simp[mmay,MnA.m,prevA]);have hmn:=MnAt.new w m;obtain⟨w1,hw1⟩:∃ w1,w1=w.alloc (.cells m.cs.toArray 29):=⟨_,rfl⟩;rw[← hw1]at hmn;have hb1:Below w.heap.size w w1:=by rw[hw1];exact (Below.refl _ _).alloc Nl _
 have h1:=MnA.below h (hb1.mono Nl);have HB1:=Yy hb1;have HC:=Yy (fun X (hX:Below w1.heap.size w1 X)=>(hmn.below hX hmn.lt).c32 h1.1);have HR:=Yy (fun h0=>ln_row h1.2.2 h0);have HOK:=Yy (fun k (hk:k<m.ls.length)=>show LnA.Ok w1 (m.ls.getD k lnA0) from Kind.row_ok h1.2.2 hk);have hnb:m.ls.length≤9223372036854775807:=by
  have a1:=h1.2.2.1;have a2:=h1.2.2.2.1;simp only[maxLen]at a2;omega
 have hv:m.v=.agg m.cs.toArray:=rfl;rw[hv];generalize mmay m.m=V at *;generalize m.cs.toArray=E at *;obtain⟨base,A,c,ls⟩:=m;dsimp only at *;have HLS:=Yy (fun k (hk:k<ls.length)=>lsOk_step hk);generalize hn:ls.length=n at *;have HN:=Yy hn;have hz:=zeroLn;rw[show KLn.v lnA0=.agg (KLn.cs lnA0).toArray from rfl]at hz;have hzne:¬ (KLn.cs lnA0).toArray=#[]:=by decide
 have hzs:=lnA0_size;clear h h1 hmn hv hb1 hn;subst hw1;go_enter Tryz.func41,Tryz.ntmps41;go_wp2;generalize w.alloc (.cells E 29)=w1 at *;go_loopw [3] (fun i wr=>∃ k:Nat,k≤n∧i=.int .i64 k∧Below w1.heap.size w1 wr∧V=(lsOk (prevA ls k) ((ls.drop k).map (·.x)) && decide (n≤10))) (fun i _=>n - (intOf i).toNat)
 case atStart=>exact⟨0,Nat.zero_le _,rfl,Below.refl _ _,HV.out⟩
 case round=>
  obtain⟨k,hk,rfl,hb,hf⟩:=hrel;have HBB:=Yy hb;have cc1:=HC.out wr hb;by_cases hlt:k<n
  ·have t1:(k:Int)<(n:Int):=by omega
   obtain⟨b1,off1,hA1,hb1w,hx1,hi1⟩:=HR.out (by omega);have ix1:=hi1 k hlt k rfl;rw[← hA1]at ix1;have hok:=HOK.out k hlt;have LL:=Yy (load_ln (Kind.at_same (hx1 k hlt) (hb.block b1 hb1w)) (LnA.below hok (hb.mono Nl)));rw[show KLn.v (ls.getD k lnA0)=.agg (KLn.cs (ls.getD k lnA0)).toArray from rfl]at LL;rw[HLS.out k hlt]at hf;have HPRV:=Yy (show prevA ls k=if k=0 then none else some (ls.getD (k - 1) lnA0).z from rfl);have HPID:Hid (0<k→∀ X,Below w1.heap.size w1 X→KId.at X b1 (off1+(k - 1)*19) (ls.getD (k - 1) lnA0).z∧(ls.getD (k - 1) lnA0).z.length=16∧AllBytes (ls.getD (k - 1) lnA0).z):=Yy (fun h0 X hX=>by
    have ho:=HOK.out (k - 1) (by omega);exact⟨ln_id (Kind.at_same (hx1 (k - 1) (by omega)) (hX.block b1 hb1w)) ho.1,ho.1,ho.2.1⟩)
   have HIXP:=Yy (fun (h0:0<k) X=>by have h:=hi1 (k - 1) (by omega) ((k:Int) - 1) (by omega) X;rw[← hA1]at h;exact h);generalize (ls.getD (k - 1) lnA0).z=pz at *;generalize prevA ls k=PV at *;generalize hrst:lsOk (prevA ls (k+1)) ((ls.drop (k+1)).map (·.x))=rest at *;have HRST:=Yy hrst;generalize ls.getD k lnA0=x at *
   -- the line's own box
   obtain⟨pB,hpB⟩:∃ pB,pB=wr.heap.size:=⟨_,rfl⟩;have hxb:=Kind.blk_new (K:=KLn) wr x 63;rw[← hpB]at hxb;have hba:Below wr.heap.size wr (wr.alloc (.cells (KLn.cs x).toArray 63)):=(Below.refl _ _).alloc Nl _;have BA:=Yy (hb.trans (hba.mono hb.size));have HXB:=Yy hxb;have a16:=ln_c16 (Kind.at_blk hxb) hok.1;have a17:=ln_c17 (Kind.at_blk hxb) hok.1;simp only[Nat.zero_add]at a16 a17;have SZ:=Yy (ln_size hok);have SQ:=Yy (show (KLn.cs lnA0).toArray.size=(KLn.cs x).toArray.size by rw[lnA0_size,List.size_toArray];exact (LnA.len hok).symm);have SO:=Yy (ln_ones x);have HOKX:=Yy hok;have hMb:x.es.length≤9223372036854775807:=by
    have a1:=hok.2.2.2.2.1;have a2:=hok.2.2.2.2.2.1;simp only[maxLen]at a2;omega
   have HE:=Yy (fun h0=>en_row hok.2.2.2.2 h0);have HEO:=Yy (fun j (hj:j<x.es.length)=>show EnA.Ok w1 (x.es.getD j enA0) from Kind.row_ok hok.2.2.2.2 hj);have HXC:=Yy (fun (P:World) (hP:Below (wr.alloc (.cells (KLn.cs x).toArray 63)).heap.size (wr.alloc (.cells (KLn.cs x).toArray 63)) P)=>Kind.at_blk (Kind.blk_below hxb hP (Kind.blk_lt hxb)));have HMAY:=Yy (fun X=>rdmay_any x.n x.r X);unfold st at HMAY;have HLN:=Yy (show lnOk x.x=(may x.n x.r && (!(decide (x.es.map (·.e)=[]∧x.n=0∧x.r=0)) && esOk x.n x.r (lastA x.es 0) ((x.es.drop 0).map (·.e)))) by unfold lnOk;rw[Bool.and_assoc];rfl);have HES:=Yy (fun j (hj:j<x.es.length)=>esOk_step (n:=x.n) (r:=x.r) hj);rw[HLN.out]at hf;generalize hwx:wr.alloc (.cells (KLn.cs x).toArray 63)=wx at *;generalize (KLn.cs x).toArray=E43 at *;have HHF:=Yy hf;obtain⟨z,dn,dr,Ae,ce,es⟩:=x;dsimp only at a16 a17 HE HEO HMAY HHF HES hMb;generalize may dn dr=b0 at *;have HNE:=Yy (show es.map (fun e:EnA=>e.e)=[]↔es.length=0 by simp);have k18:=Yy (fun P hP=>by have h:=ln_c18 (HXC.out P hP) HOKX.out.1;rw[Nat.zero_add]at h;exact h);have k16:=Yy (fun P hP=>by have h:=ln_c16 (HXC.out P hP) HOKX.out.1;rw[Nat.zero_add]at h;exact h);have k17:=Yy (fun P hP=>by have h:=ln_c17 (HXC.out P hP) HOKX.out.1;rw[Nat.zero_add]at h;exact h);dsimp only at k16 k17 k18;generalize hM:es.length=M at *;have HM:=Yy hM;have HHB:=Yy hb1w;have HIX1:=Yy hi1;have HPB:=Yy hpB;clear hf hx1 hi1 hA1 hok hxb hba hb hM hrst hb1w HLN;subst hwx;subst hpB
   go_wp2_with (first | ((with_reducible refine YyL 63 (.tmp 20) ⟨b1,off1+k*19,none⟩ LL.out ?_ ?_ ?_);rfl;rfl) | ((with_reducible refine wpList_store_new (o:=⟨none,.store 63 (.tmp 4) (.tmp 21),_,_,_,_⟩) ?_ 63 (.tmp 4) (.tmp 21) ?_ ?_ (KLn.cs lnA0).toArray E43 ?_ SZ.out SQ.out SO.out ?_);rfl;rfl;rfl;rfl));refine (HMAY.out _).mono ?_;rintro e w3 ⟨rfl,hb3⟩;have A16:=k16.out w3 hb3;have A17:=k17.out w3 hb3;have A18:=k18.out w3 hb3;have B3:=Yy (BA.out.trans (hb3.mono BA.out.size));have BX3:=Yy hb3;have BB:=Yy (HB1.out.trans (B3.out.mono HB1.out.size));clear a16 a17 cc1 ix1 hb3;cases b0
   ·have HF:=Yy (show V=false by rw[HHF.out];rfl);go_wp2;go_ret;exact⟨by rw[HF.out];try rfl,BB.out⟩
   have F18:=Yy (fun w9 (h9:Below w3.heap.size w3 w9)=>k18.out w9 (BX3.out.trans (h9.mono BX3.out.size)));have F16:=Yy (fun w9 (h9:Below w3.heap.size w3 w9)=>k16.out w9 (BX3.out.trans (h9.mono BX3.out.size)));have F17:=Yy (fun w9 (h9:Below w3.heap.size w3 w9)=>k17.out w9 (BX3.out.trans (h9.mono BX3.out.size)));have HS32:=Yy (fun w9 (h9:Below w3.heap.size w3 w9)=>HC.out w9 (B3.out.trans (h9.mono B3.out.size)));have HEQ:=Yy (fun X=>eq_st (n:=dn) (r:=dr) (m:=0) (s:=0) X);by_cases hM0:M=0
   ·have t2:(M:Int)=0:=by omega
    by_cases hD:dn=0∧dr=0
    ·have HF:=Yy (show V=false by rw[HHF.out,decide_eq_true (show es.map (fun e:EnA=>e.e)=[]∧dn=0∧dr=0 from⟨HNE.out.2 hM0,hD⟩)];rfl);rw[decide_eq_true hD]at HEQ;clear HHF hD;go_wp2_with (first | ((with_reducible refine wpList_eqlM (o:=⟨some 36,.binOp .eql 33 (.tmp 34) (.tmp 35) 33,_,_,_,_⟩) ?_ 33 (.tmp 34) (.tmp 35) 33 ?_ ?_ ?_ guardStM (HEQ.out _) ?_);rfl;rfl;rfl;rfl));go_ret;exact⟨by rw[HF.out];try rfl,BB.out⟩
    ·have HF1:=Yy (show V=((esOk dn dr (lastA es 0) ((es.drop 0).map (·.e)) && (riseOk PV z && rest)) && decide (n≤10)) by rw[HHF.out,decide_eq_false (show ¬ (es.map (fun e:EnA=>e.e)=[]∧dn=0∧dr=0) from fun h=>hD h.2)];rfl);rw[decide_eq_false hD]at HEQ;clear HHF hD;by_cases hk0:k=0
     ·have t5:¬ (0:Int)<(k:Int):=by omega
      have HE0:=Yy (show V=((esOk dn dr (lastA es 0) ((es.drop 0).map (·.e)) && rest) && decide (n≤10)) by rw[HF1.out,HPRV.out,if_pos hk0];rfl);have BX0:=Yy (Below.refl w3.heap.size w3);clear HF1;go_wp2_with (first | ((with_reducible refine wpList_eqlM (o:=⟨some 36,.binOp .eql 33 (.tmp 34) (.tmp 35) 33,_,_,_,_⟩) ?_ 33 (.tmp 34) (.tmp 35) 33 ?_ ?_ ?_ guardStM (HEQ.out _) ?_);rfl;rfl;rfl;rfl));clear A16 A17 A18;exact Tta17
     ·have t5:(0:Int)<(k:Int):=by omega
      have hk1:0<k:=by omega
      have HPV:=Yy (show PV=some pz by rw[HPRV.out,if_neg hk0]);have hp:=HPID.out hk1;have LP:=Yy (fun w9 (h9:Below w3.heap.size w3 w9)=>(hp w9 (B3.out.trans (h9.mono B3.out.size))).1);have HPZ:=Yy (hp w3 B3.out).2.1;have IXP:=Yy (HIXP.out hk1);have HLE:=Yy (fun X=>rbless_any pz z X (hp w3 B3.out).2.2 HOKX.out.2.1 (hp w3 B3.out).2.1 HOKX.out.1);have LZ:=Yy (fun w9 (h9:Below w3.heap.size w3 w9)=>ln_id (HXC.out w9 (BX3.out.trans (h9.mono BX3.out.size))) HOKX.out.1);dsimp only at LZ;have HZ16:=Yy (show z.length=16 from HOKX.out.1);have HF3:=Yy (show V=((esOk dn dr (lastA es 0) ((es.drop 0).map (·.e)) && (lessL pz z && rest)) && decide (n≤10)) by rw[HF1.out,HPV.out];rfl);clear HF1 HPRV HPV hp;generalize lessL pz z=b8 at *;cases b8
      ·have HF:=Yy (show V=false by rw[HF3.out];simp);clear HF3;go_wp2_with (first | ((with_reducible refine wpList_eqlM (o:=⟨some 36,.binOp .eql 33 (.tmp 34) (.tmp 35) 33,_,_,_,_⟩) ?_ 33 (.tmp 34) (.tmp 35) 33 ?_ ?_ ?_ guardStM (HEQ.out _) ?_);rfl;rfl;rfl;rfl));exact Tta15
      ·have HE0:=Yy (show V=((esOk dn dr (lastA es 0) ((es.drop 0).map (·.e)) && rest) && decide (n≤10)) by rw[HF3.out];rfl);clear HF3;go_wp2_with (first | ((with_reducible refine wpList_eqlM (o:=⟨some 36,.binOp .eql 33 (.tmp 34) (.tmp 35) 33,_,_,_,_⟩) ?_ 33 (.tmp 34) (.tmp 35) 33 ?_ ?_ ?_ guardStM (HEQ.out _) ?_);rfl;rfl;rfl;rfl));refine wp_region_G _ (by kernel_rfl) ?_;refine YGa 0 (some 41) rfl ?_;refine YGb 1 (some 42) rfl (fun w9 hSw=>HS32.out w9 hSw) ?_;refine YGa 2 (some 43) rfl ?_;refine YGd 3 (some 44) _ rfl (fun w9 hSw=>by have x1:IntKind.i64.wrap ((k:Int) - 1)=(k:Int) - 1:=IntWalk.i64_in _ (by omega);go_simp;try with_reducible rfl) ?_;refine YGb 4 (some 45) rfl (fun w9 hSw=>IXP.out w9) ?_;refine YGa 5 (some 46) rfl ?_;refine YGd 6 (some 47) (.agg (bvals pz)) rfl (fun w9 hSw=>by exact exec_load_at 31 _ rfl _ rfl (load_idM (LP.out w9 hSw) HPZ.out)) ?_;refine YGa 7 (some 48) rfl ?_;refine YGd 8 (some 49) (.agg (bvals z)) rfl (fun w9 hSw=>by exact exec_load_at 31 _ rfl _ rfl (load_idM (LZ.out w9 hSw) HZ16.out)) ?_;refine YGk 9 (some 50) rfl HLE.out ?_;refine YGa 10 (some 6) rfl ?_;refine wpG_done (by kernel_rfl) ?_ _;intro w9 hSw _;have BX0:=Yy hSw;clear hSw A16 A17 A18;go_wp2;exact Tta17
   ·have t2:¬ (M:Int)=0:=by omega
    have HF1:=Yy (show V=((esOk dn dr (lastA es 0) ((es.drop 0).map (·.e)) && (riseOk PV z && rest)) && decide (n≤10)) by rw[HHF.out,decide_eq_false (show ¬ (es.map (fun e:EnA=>e.e)=[]∧dn=0∧dr=0) from fun h=>hM0 (HNE.out.1 h.1))];rfl);clear HHF;by_cases hk0:k=0
    ·have t5:¬ (0:Int)<(k:Int):=by omega
     have HE0:=Yy (show V=((esOk dn dr (lastA es 0) ((es.drop 0).map (·.e)) && rest) && decide (n≤10)) by rw[HF1.out,HPRV.out,if_pos hk0];rfl);have BX0:=Yy (Below.refl w3.heap.size w3);clear HF1;go_wp2;clear A16 A17 A18;exact Tta3
    ·have t5:(0:Int)<(k:Int):=by omega
     have hk1:0<k:=by omega
     have HPV:=Yy (show PV=some pz by rw[HPRV.out,if_neg hk0]);have hp:=HPID.out hk1;have LP:=Yy (fun w9 (h9:Below w3.heap.size w3 w9)=>(hp w9 (B3.out.trans (h9.mono B3.out.size))).1);have HPZ:=Yy (hp w3 B3.out).2.1;have IXP:=Yy (HIXP.out hk1);have HLE:=Yy (fun X=>rbless_any pz z X (hp w3 B3.out).2.2 HOKX.out.2.1 (hp w3 B3.out).2.1 HOKX.out.1);have LZ:=Yy (fun w9 (h9:Below w3.heap.size w3 w9)=>ln_id (HXC.out w9 (BX3.out.trans (h9.mono BX3.out.size))) HOKX.out.1);dsimp only at LZ;have HZ16:=Yy (show z.length=16 from HOKX.out.1);have HF3:=Yy (show V=((esOk dn dr (lastA es 0) ((es.drop 0).map (·.e)) && (lessL pz z && rest)) && decide (n≤10)) by rw[HF1.out,HPV.out];rfl);clear HF1 HPRV HPV hp;generalize lessL pz z=b8 at *;cases b8
     ·have HF:=Yy (show V=false by rw[HF3.out];simp);clear HF3;go_wp2_with fail;exact Tta15
     ·have HE0:=Yy (show V=((esOk dn dr (lastA es 0) ((es.drop 0).map (·.e)) && rest) && decide (n≤10)) by rw[HF3.out];rfl);clear HF3;go_wp2_with fail;refine wp_region_G _ (by kernel_rfl) ?_;refine YGa 0 (some 41) rfl ?_;refine YGb 1 (some 42) rfl (fun w9 hSw=>HS32.out w9 hSw) ?_;refine YGa 2 (some 43) rfl ?_;refine YGd 3 (some 44) _ rfl (fun w9 hSw=>by have x1:IntKind.i64.wrap ((k:Int) - 1)=(k:Int) - 1:=IntWalk.i64_in _ (by omega);go_simp;try with_reducible rfl) ?_;refine YGb 4 (some 45) rfl (fun w9 hSw=>IXP.out w9) ?_;refine YGa 5 (some 46) rfl ?_;refine YGd 6 (some 47) (.agg (bvals pz)) rfl (fun w9 hSw=>by exact exec_load_at 31 _ rfl _ rfl (load_idM (LP.out w9 hSw) HPZ.out)) ?_;refine YGa 7 (some 48) rfl ?_;refine YGd 8 (some 49) (.agg (bvals z)) rfl (fun w9 hSw=>by exact exec_load_at 31 _ rfl _ rfl (load_idM (LZ.out w9 hSw) HZ16.out)) ?_;refine YGk 9 (some 50) rfl HLE.out ?_;refine YGa 10 (some 6) rfl ?_;refine wpG_done (by kernel_rfl) ?_ _;intro w9 hSw _;have BX0:=Yy hSw;clear hSw A16 A17 A18;go_wp2;exact Tta3
  ·obtain rfl:k=n:=by omega
   have t1:¬ (k:Int)<(k:Int):=by omega
   have HF:=Yy (show V=decide ((k:Int)≤10) by rw[hf,List.drop_eq_nil_of_le (by rw[HN.out];exact Nat.le_refl _)];simp[lsOk];omega);have B9:=Yy (HB1.out.trans (hb.mono HB1.out.size));clear hf hb;go_wp2;go_ret;exact⟨by rw[HF.out];try rfl,B9.out⟩
end
section
open Go.RowKit WM
def lineA (ls:List LnA) (z:List Int):Option LnA:=ls.find? fun x=>decide (x.z=z)
theorem lineA_step {ls:List LnA} {k:Nat} (z:List Int) (hk:k<ls.length):lineA (ls.drop k) z=if (ls.getD k lnA0).z=z then some (ls.getD k lnA0) else lineA (ls.drop (k+1)) z:=by
 rw[List.drop_eq_getElem_cons hk];have h:ls.getD k lnA0=ls[k]:=by rw[List.getD_eq_getElem?_getD,List.getElem?_eq_getElem hk];rfl
 rw[h];unfold lineA;by_cases hz:ls[k].z=z
 ·rw[if_pos hz,List.find?_cons_of_pos (by simpa using hz)]
 ·rw[if_neg hz,List.find?_cons_of_neg (by simpa using hz)]
theorem lineA_x (ls:List LnA) (z:List Int):(lineA ls z).map (·.x)=lfind (ls.map (·.x)) z:=by
 unfold lineA lfind
 induction ls with
 | nil=>rfl
 | cons x ls ih=>
  rw[List.map_cons];by_cases hz:x.z=z
  ·rw[List.find?_cons_of_pos (by simpa using hz),List.find?_cons_of_pos (by show decide (x.x.z=z)=true;exact decide_eq_true hz)];rfl
  ·rw[List.find?_cons_of_neg (by simpa using hz),List.find?_cons_of_neg (by show ¬ decide (x.x.z=z)=true;rw[decide_eq_true_eq];exact hz)];exact ih
theorem lineA_ok {w:World} {A:Option Addr} {c:Nat} {ls:List LnA} {z:List Int} (h:KLn.row w A c ls):(((lineA ls z).getD lnA0).Ok w):=by
 cases hl:lineA ls z with
 | none=>exact⟨rfl,by show AllBytes z16m;unfold AllBytes z16m;decide,by decide,by decide,Kind.row_nil w none 0 (by decide) (fun _=>rfl)⟩
 | some x=>exact h.2.2.2.2 x (List.mem_of_find?_eq_some hl)
def LinePost (w:World) (V:Option LnA) (e:Ending) (w':World):Prop:=e=.returned (.tuple #[KLn.v (V.getD lnA0),.bool V.isSome])∧Below w.heap.size w w'
theorem Tta76 {p:Prop} (h:p:=by
  have hp':tmps[p]?.getD undef=.pointer (some ⟨g,0,none⟩):=by simpa using hp
  have hl:=load_ln (Kind.at_blk hs) hx;simp[results,h,hp',asAddr,hl]
 ):p:=h
theorem res_ln2 {fn:Func} {p q:Tmp} (h:fn.results=#[.cell p 63,.tmp q]) {tmps:Array Value} {w:World} {g:Nat} {x:LnA} (hp:tmps.getD p undef=.pointer (some ⟨g,0,none⟩)) (hs:KLn.blk 63 w g x) (hx:x.Ok w):
  (results fn tmps).run Tryz.prog w=.ok (.tuple #[KLn.v x,tmps.getD q undef]) w:=by
 exact Tta76
theorem buildLn0 (w:World):(Instr.build 63 #[]).run Tryz.prog w=.ok (.agg (KLn.cs lnA0).toArray) w:=run_build w _ _ _ (by kernel_rfl)
theorem lnA0_ok (w:World):lnA0.Ok w:=⟨rfl,by show AllBytes z16m;unfold AllBytes z16m;decide,by decide,by decide,Kind.row_nil w none 0 (by decide) (fun _=>rfl)⟩
structure LineS (w:World) (m:MnA) (z:List Int) (X:World):Prop where
 a:MnAt X w.heap.size m
 b:KId.blk 31 X (w.heap.size+1) z
 c:KLn.blk 63 X (w.heap.size+1+1) lnA0
 below:Below w.heap.size w X
theorem LineS.go {w X Y:World} {m:MnA} {z:List Int} (h:LineS w m z X) (hb:Below X.heap.size X Y):LineS w m z Y:=
 ⟨h.a.below hb h.a.lt,Kind.blk_below h.b hb (Kind.blk_lt h.b),Kind.blk_below h.c hb (Kind.blk_lt h.c),h.below.trans (hb.mono h.below.size)⟩
theorem Tta81 {p:Prop} (h:p:=by
  exact ((MnAt.new w m).below ((Below.refl _ _).alloc Nl _) (MnAt.new w m).lt).below ((Below.refl _ _).alloc Nl _) (by rw[e2];omega)
 ):p:=h
theorem LineS.new (w:World) (m:MnA) (z:List Int):LineS w m z (((w.alloc (.cells m.cs.toArray 29)).alloc (.cells (bvals z) 31)).alloc (.cells (KLn.cs lnA0).toArray 63)):=by
 have e1:(w.alloc (.cells m.cs.toArray 29)).heap.size=w.heap.size+1:=World.size_alloc _ _;have e2:((w.alloc (.cells m.cs.toArray 29)).alloc (.cells (bvals z) 31)).heap.size=w.heap.size+1+1:=by rw[World.size_alloc,e1]
 refine⟨?_,?_,?_,?_⟩
 ·exact Tta81
 ·have h:=Kind.blk_new (K:=KId) (w.alloc (.cells m.cs.toArray 29)) z 31;rw[e1]at h;exact Kind.blk_old h _
 ·have h:=Kind.blk_new (K:=KLn) ((w.alloc (.cells m.cs.toArray 29)).alloc (.cells (bvals z) 31)) lnA0 63;rw[e2]at h;exact h
 ·exact (((Below.refl _ _).alloc Nl _).alloc (by rw[e1];omega) _).alloc (by rw[e2];omega) _
theorem rline12_any (m:MnA) (z:List Int) (w:World) (h:m.Ok w) (hz16:z.length=16∧AllBytes z):Calls Tryz.prog 42 #[m.v,.agg (bvals z)] w (LinePost w (lineA m.ls z)):=by
 have S0:=LineS.new w m z;obtain⟨w1,hw1⟩:∃ w1,w1=((w.alloc (.cells m.cs.toArray 29)).alloc (.cells (bvals z) 31)).alloc (.cells (KLn.cs lnA0).toArray 63):=⟨_,rfl⟩;rw[← hw1]at S0;have h1:=MnA.below h (S0.below.mono Nl);have HB1:=Yy S0.below;have HS:=Yy (fun X (hX:Below w1.heap.size w1 X)=>S0.go hX);have HC:=Yy (fun X (hX:Below w1.heap.size w1 X)=>(S0.go hX).a.c32 h1.1);have HI:=Yy (fun X (hX:Below w1.heap.size w1 X)=>Kind.at_blk (S0.go hX).b);have HR:=Yy (fun h0=>ln_row h1.2.2 h0);have HOK:=Yy (fun k (hk:k<m.ls.length)=>show LnA.Ok w1 (m.ls.getD k lnA0) from Kind.row_ok h1.2.2 hk);have HOKW:=Yy (fun k (hk:k<m.ls.length)=>show LnA.Ok w (m.ls.getD k lnA0) from Kind.row_ok h.2.2 hk);have HZ:=Yy hz16;have hnb:m.ls.length≤9223372036854775807:=by
  have a1:=h1.2.2.1;have a2:=h1.2.2.2.1;simp only[maxLen]at a2;omega
 have HV:=Yy (show lineA m.ls z=lineA (m.ls.drop 0) z by rw[List.drop_zero]);have hv:m.v=.agg m.cs.toArray:=rfl;rw[hv];generalize lineA m.ls z=V at *;generalize m.cs.toArray=E at *;obtain⟨base,A,c,ls⟩:=m;dsimp only at *;have HLS:=Yy (fun k (hk:k<ls.length)=>lineA_step z hk);generalize hn:ls.length=n at *;have HN:=Yy hn;have hz:=zeroLn;rw[show KLn.v lnA0=.agg (KLn.cs lnA0).toArray from rfl]at hz;have hb0:=buildLn0;have hzne:¬ (KLn.cs lnA0).toArray=#[]:=by decide
 have HZS:=Yy lnA0_size;have HZ1:=Yy (ln_ones lnA0);clear h h1 S0 hv hn hz16;subst hw1;go_enter Tryz.func42,Tryz.ntmps42;go_wp2;generalize ((w.alloc (.cells E 29)).alloc (.cells (bvals z) 31)).alloc (.cells (KLn.cs lnA0).toArray 63)=w1 at *;go_loopw [6] (fun i wr=>∃ k:Nat,k≤n∧i=.int .i64 k∧Below w1.heap.size w1 wr∧V=lineA (ls.drop k) z) (fun i _=>n - (intOf i).toNat)
 case atStart=>exact⟨0,Nat.zero_le _,rfl,Below.refl _ _,HV.out⟩
 case round=>
  obtain⟨k,hk,rfl,hb,hf⟩:=hrel;have HBB:=Yy hb;have cc1:=HC.out wr hb;by_cases hlt:k<n
  ·have t1:(k:Int)<(n:Int):=by omega
   obtain⟨b1,off1,hA1,hb1w,hx1,hi1⟩:=HR.out (by omega);have IX:=Yy (hi1 k hlt k rfl);rw[← hA1]at IX;have hok:=HOK.out k hlt;have HX:=Yy (fun w9 (h9:Below wr.heap.size wr w9)=>Kind.at_same (hx1 k hlt) ((hb.trans (h9.mono hb.size)).block b1 hb1w));have HOX:=Yy (fun w9 (h9:Below wr.heap.size wr w9)=>LnA.below hok ((hb.trans (h9.mono hb.size)).mono Nl));have HS32:=Yy (fun w9 (h9:Below wr.heap.size wr w9)=>HC.out w9 (hb.trans (h9.mono hb.size)));have LI:=Yy (fun w9 (h9:Below wr.heap.size wr w9)=>HI.out w9 (hb.trans (h9.mono hb.size)));rw[HLS.out k hlt]at hf;have HOW:=Yy (HOKW.out k hlt);generalize ls.getD k lnA0=x at *;have HOKX:=Yy hok;have LZ:=Yy (fun w9 (h9:Below wr.heap.size wr w9)=>ln_id (HX.out w9 h9) hok.1);have HQ:=Yy (show ∀ X,(Op.equalIn 10000 31 (.agg (bvals x.z)) (.agg (bvals z))).run Tryz.prog X=.ok (decide (x.z=z)) X from fun X=>by
    rw[eq_id hok.2.1 HZ.out.2 hok.1 HZ.out.1 X];congr 1;rw[Bool.eq_iff_iff];simp)
   have HLL:=Yy (fun w9 (h9:Below wr.heap.size wr w9)=>load_ln (HX.out w9 h9) (HOX.out w9 h9));rw[show KLn.v x=.agg (KLn.cs x).toArray from rfl]at HLL;have SZ:=Yy (ln_size hok);have SQ:=Yy (show (KLn.cs lnA0).toArray.size=(KLn.cs x).toArray.size by rw[lnA0_size,List.size_toArray];exact (LnA.len hok).symm);have SO:=Yy (ln_ones x);have HBW:=Yy hb1w;clear hx1 hi1 hA1 hok hb hb1w;by_cases he:x.z=z
   ·rw[if_pos he]at hf;rw[decide_eq_true he]at HQ;have HF:=Yy hf;clear hf he;go_wp2_with fail;refine wp_region_G _ (by kernel_rfl) ?_;refine YGa 0 (some 14) rfl ?_;refine YGb 1 (some 15) rfl (fun w9 hSw=>HS32.out w9 hSw) ?_;refine YGa 2 (some 16) rfl ?_;refine YGb 3 (some 17) rfl (fun w9 hSw=>IX.out w9) ?_;refine YGa 4 (some 18) rfl ?_;refine YGd 5 (some 19) (.agg (bvals x.z)) rfl (fun w9 hSw=>by exact exec_load_at 31 _ rfl _ rfl (load_idM (LZ.out w9 hSw) HOKX.out.1)) ?_;refine YGd 6 (some 20) (.agg (bvals z)) rfl (fun w9 hSw=>by exact exec_load_at 31 _ rfl _ rfl (load_idM (LI.out w9 hSw) HZ.out.1)) ?_;refine YGd 7 (some 21) (.bool true) rfl (fun w9 hSw=>by have q0:=HQ.out w9;exact exec_eql_at 31 _ _ _ rfl rfl rfl guardIdM q0) ?_;refine wpG_done (by kernel_rfl) ?_ _;intro w9 hSw _;have B9:=Yy (HBB.out.trans (hSw.mono HBB.out.size));have LL:=Yy (HLL.out w9 hSw);have NB:=Yy (HS.out w9 B9.out).c;have BB:=Yy (HS.out w9 B9.out).below;have cc1:=HC.out w9 B9.out;have ix1:=IX.out w9;have XB:=Yy (show KLn.blk 63 (w9.setRow (w.heap.size+1+1) (KLn.cs x).toArray) (w.heap.size+1+1) x from setRow_heap _ _ _ _ _ _ NB.out);have BX:=Yy (below_setRow BB.out (show w.heap.size≤w.heap.size+1+1 by omega) (KLn.cs x).toArray);have OX2:=Yy (show LnA.Ok (w9.setRow (w.heap.size+1+1) (KLn.cs x).toArray) x from LnA.below HOW.out BX.out);clear hSw;unfold Kind.blk at NB
    go_wp2_with (first | ((with_reducible refine YyL 63 (.tmp 25) ⟨b1,off1+k*19,none⟩ LL.out ?_ ?_ ?_);rfl;rfl) | ((with_reducible refine wpList_store_row (o:=⟨none,.store 63 (.tmp 4) (.tmp 26),_,_,_,_⟩) ?_ 63 (.tmp 4) (.tmp 26) ?_ (w.heap.size+1+1) (KLn.cs x).toArray ?_ ?_ 63 _ NB.out SZ.out SQ.out SO.out ?_);rfl;rfl;rfl;rfl));refine bodyPost_ret (v:=.tuple #[KLn.v x,.bool true]) ?_ rfl ?_
    ·exact res_ln2 Tryz.results42 rfl XB.out OX2.out
    ·rw[HF.out];exact⟨rfl,BX.out⟩
   ·rw[if_neg he]at hf;rw[decide_eq_false he]at HQ;have HF:=Yy hf;clear hf he;go_wp2_with fail;refine wp_region_G _ (by kernel_rfl) ?_;refine YGa 0 (some 14) rfl ?_;refine YGb 1 (some 15) rfl (fun w9 hSw=>HS32.out w9 hSw) ?_;refine YGa 2 (some 16) rfl ?_;refine YGb 3 (some 17) rfl (fun w9 hSw=>IX.out w9) ?_;refine YGa 4 (some 18) rfl ?_;refine YGd 5 (some 19) (.agg (bvals x.z)) rfl (fun w9 hSw=>by exact exec_load_at 31 _ rfl _ rfl (load_idM (LZ.out w9 hSw) HOKX.out.1)) ?_;refine YGd 6 (some 20) (.agg (bvals z)) rfl (fun w9 hSw=>by exact exec_load_at 31 _ rfl _ rfl (load_idM (LI.out w9 hSw) HZ.out.1)) ?_;refine YGd 7 (some 21) (.bool false) rfl (fun w9 hSw=>by have q0:=HQ.out w9;exact exec_eql_at 31 _ _ _ rfl rfl rfl guardIdM q0) ?_;refine wpG_done (by kernel_rfl) ?_ _;intro w9 hSw _;have B9:=Yy (HBB.out.trans (hSw.mono HBB.out.size));clear hSw cc1;go_wp2;go_roundw
    case rel=>exact⟨k+1,by omega,by go_num,B9.out,HF.out⟩
    case measure=>simp[intOf];omega
  ·obtain rfl:k=n:=by omega
   have t1:¬ (k:Int)<(k:Int):=by omega
   have HF:=Yy (show V=none by rw[hf,List.drop_eq_nil_of_le (by rw[HN.out];exact Nat.le_refl _)];rfl);have NB:=Yy (HS.out wr hb).c;have BB:=Yy (HS.out wr hb).below;have XB:=Yy (show KLn.blk 63 (wr.setRow (w.heap.size+1+1) (KLn.cs lnA0).toArray) (w.heap.size+1+1) lnA0 from setRow_heap _ _ _ _ _ _ NB.out);have BX:=Yy (below_setRow BB.out (show w.heap.size≤w.heap.size+1+1 by omega) (KLn.cs lnA0).toArray);have SZ:=Yy (ln_size (lnA0_ok wr));clear hf hb;unfold Kind.blk at NB;go_wp2_with (first | ((with_reducible refine wpList_store_row (o:=⟨none,.store 63 (.tmp 4) (.tmp 27),_,_,_,_⟩) ?_ 63 (.tmp 4) (.tmp 27) ?_ (w.heap.size+1+1) (KLn.cs lnA0).toArray ?_ ?_ 63 _ NB.out SZ.out rfl HZ1.out ?_);rfl;rfl;rfl;rfl));refine bodyPost_ret (v:=.tuple #[KLn.v lnA0,.bool false]) ?_ rfl ?_
   ·exact res_ln2 Tryz.results42 rfl XB.out (lnA0_ok _)
   ·rw[HF.out];exact⟨rfl,BX.out⟩
end
end Go.Proofs.YtnlhkpmgbpfjmaaGreatDoor
