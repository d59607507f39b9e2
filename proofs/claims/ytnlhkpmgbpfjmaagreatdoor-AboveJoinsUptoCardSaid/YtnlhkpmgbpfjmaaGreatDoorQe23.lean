import Derived.Test.YtnlhkpmgbpfjmaaGreatDoorQe22
/- What functions answer, part 23. -/
namespace Go.Proofs.YtnlhkpmgbpfjmaaGreatDoor
set_option linter.unusedVariables false
set_option linter.unusedSimpArgs false
set_option maxHeartbeats 16000000
set_option maxRecDepth 100000
section
open Go.RowKit WM
def mn0:Mn:=⟨z32m,[]⟩
noncomputable def mofB (rs:List Rc):Option Mn:=if bmay rs=true then some (mof SH.sum (SH.sum (bbs rs)) rs) else none
def MofPost (w:World) (o:Option Mn) (e:Ending) (w':World):Prop:=∃ m:MnA,e=.returned (.tuple #[m.v,.bool o.isSome])∧m.m=o.getD mn0∧m.Ok w'∧Below w.heap.size w w'
theorem mnA0_ok (w:World):mnA0.Ok w:=⟨rfl,by show AllBytes z32m;unfold AllBytes z32m;decide,Kind.row_nil w none 0 (by decide) (fun _=>rfl)⟩
theorem mn_size {m:MnA} {w:World} (h:m.Ok w):(Tryz.prog.info? 29).map (·.size)=some m.cs.toArray.size:=by
 rw[List.size_toArray,MnA.len h];obtain⟨i,hi,_,hs,_⟩:=info_parts infoMn;rw[hi];exact congrArg some hs
theorem mn_ones (m:MnA):m.cs.toArray.all (·.oneCell')=true:=mnP_one m.base rfl
theorem mnA0_size:mnA0.cs.toArray.size=33:=by decide
theorem buildMn0 (w:World):(Instr.build 29 #[]).run Tryz.prog w=.ok (.agg mnA0.cs.toArray) w:=run_build w _ _ _ (by kernel_rfl)
theorem res_mn2 {fn:Func} {p q:Tmp} (h:fn.results=#[.cell p 29,.tmp q]) {tmps:Array Value} {w:World} {g:Nat} {m:MnA} (hp:tmps.getD p undef=.pointer (some ⟨g,0,none⟩)) (hs:MnAt w g m) (hm:m.Ok w):
  (results fn tmps).run Tryz.prog w=.ok (.tuple #[m.v,tmps.getD q undef]) w:=by
 have hp':tmps[p]?.getD undef=.pointer (some ⟨g,0,none⟩):=by simpa using hp
 have hl:=load_mn hs hm;simp[results,h,hp',asAddr,hl]
theorem RJ.mn {bl base:Nat} {z:List Int} {A:Option Addr} {c:Nat} {ls:List LnA} {W:World} (h:RJ TLn 63 29 bl base (mnP z) (.slice A ls.length c) ls W) (hz:z.length=32∧AllBytes z):MnA.Ok W ⟨z,A,c,ls⟩∧MnAt W bl ⟨z,A,c,ls⟩∧∀ g cur,W.heap[g]?=some (.cells cur 29)→∀ W',W.grownBy W' (some g)→MnA.Ok W' ⟨z,A,c,ls⟩:=by
 have hr:=Kind.row_own (K:=KLn) h.own fun e he=>(h.ok e he).1;refine⟨⟨hz.1,hz.2,hr⟩,h.blk,fun g cur hg W' hG=>⟨hz.1,hz.2,Kind.row_kept hr (Tag.own h.own) hG (NoT.of hg (by decide)) fun e he=>(LnA.kept (h.ok e he).1 (h.ok e he).2 hG (NoT.of hg (by decide))).1⟩⟩
theorem Tta9 {p:Prop} (h:p:=by
  generalize hv4:(Value.slice (some ⟨g13,0,none⟩) (ls.length+1) cap13)=v4 at *;clear hv4;have HM2:=Yy (show (ls++[y]).map (fun l:LnA=>l.x)=(rs.take (k+1)).map (mofL SH.sum) by
   rw[HTK.out,List.map_append,List.map_append,HMP.out];simp only[List.map_cons,List.map_nil,HYX.out])
  go_wp2;go_roundw
  case rel=>exact⟨k+1,ls++[y],v4,by omega,by go_num,by rw[List.length_append,HKE.out];rfl,SE.out.b,JE.out,HM2.out⟩
  case measure=>simp[intOf];omega
 ):p:=h
theorem pof12_any (d:Bk) (w:World) (hlaid:Laid w) (h:BkAt w d):Calls Tryz.prog 21 #[.agg #[.slice d.A d.xs.length d.c]] w (MofPost w (mofB d.rs)):=by
 have HLA:=Yy (fun (X:World) (hX:Below w.heap.size w X)=>hlaid.below hX Nl);have HBK:=Yy h;have T1:=(BoAt.new w (.slice d.A d.xs.length d.c)).old (.cells mnA0.cs.toArray 29);have M1:MnAt ((w.alloc (.cells #[.slice d.A d.xs.length d.c] 24)).alloc (.cells mnA0.cs.toArray 29)) (w.heap.size+1) mnA0:=by
  have:=MnAt.new (w.alloc (.cells #[.slice d.A d.xs.length d.c] 24)) mnA0;rw[World.size_alloc]at this;exact this
 have B1:=Yy (((Below.refl w.heap.size w).alloc Nl (.cells #[.slice d.A d.xs.length d.c] 24)).alloc (by rw[World.size_alloc];omega) (.cells mnA0.cs.toArray 29));have HCM:=Yy (bmay_any d _ (h.below B1.out Nl));have HCD:=Yy (fun X (hX:Below w.heap.size w X)=>digest_any d X (hlaid.below hX Nl) (h.below hX Nl));unfold DSumPost at HCD;have LB1:=Yy T1.load;have TT1:=Yy T1;have MM1:=Yy M1;have hz:=zeroMn;rw[show mnA0.v=.agg mnA0.cs.toArray from rfl]at hz;have hzne:¬ mnA0.cs.toArray=#[]:=by decide
 have HRV:=Yy (fun i (hi:i<d.xs.length)=>RsAt.rv h hi);have HCELL:=Yy h.2.2.2.1;have hlc:=h.1;have hcm:=h.2.1;simp only[maxLen]at hcm;have HV:=Yy (show mofB d.rs=if bmay d.rs=true then some (mof SH.sum (SH.sum (bbs d.rs)) d.rs) else none from rfl);have HMB:=Yy (show bmay d.rs=true→∀ k,k<d.xs.length→Rc.may (d.xs.getD k rcA0).R=true from fun hm k hk=>(bmay_iff.1 hm).2.1 _ (List.mem_map.2 ⟨_,by rw[List.getD_eq_getElem?_getD,List.getElem?_eq_getElem hk];exact List.getElem_mem _,rfl⟩));have HM10:=Yy (show bmay d.rs=true→d.xs.length≤10 from fun hm=>by have:=(bmay_iff.1 hm).1;unfold Bk.rs at this;rwa[List.length_map]at this);have HRS:=Yy (show ∀ k,k<d.xs.length→d.rs.take (k+1)=d.rs.take k++[(d.xs.getD k rcA0).R] from fun k hk=>by
  unfold Bk.rs;rw[List.take_succ_eq_append_getElem (by rw[List.length_map];exact hk),List.getElem_map,List.getD_eq_getElem?_getD,List.getElem?_eq_getElem hk]
  rfl)
 have HRL:=Yy (show d.rs.length=d.xs.length by unfold Bk.rs;rw[List.length_map]);have HDL:=Yy (SH.sum_len (bbs d.rs));have HDB:=Yy (SH.sum_bytes (bbs d.rs));generalize mofB d.rs=V at *;generalize SH.sum (bbs d.rs)=D at *;generalize hrs:d.rs=rs at *;obtain⟨xs,A,c⟩:=d;dsimp only at *;have HSZ0:=Yy (show ∀ X:World,X=((w.alloc (.cells #[.slice A xs.length c] 24)).alloc (.cells mnA0.cs.toArray 29))→X.heap.size=w.heap.size+1+1 from fun X e=>by rw[e];simp[World.size_alloc]);generalize hnl:xs.length=n at *;clear T1 M1 h hlaid hrs;cases hm:bmay rs
 ·rw[hm]at HCM HV;have HF:=Yy (show V=none by rw[HV.out];rfl);clear HV HMB HM10 hm;have HB0:=Yy buildMn0;go_enter Tryz.func21,Tryz.ntmps21;go_wp2_with (first | ((with_reducible refine YyL 24 (.tmp 1) ⟨w.heap.size,0,none⟩ LB1.out ?_ ?_ ?_);rfl;rfl));refine HCM.out.mono ?_;rintro e w1 ⟨rfl,hb1⟩;have M2:=Yy (MM1.out.below hb1 MM1.out.lt);have B2:=Yy (B1.out.trans (hb1.mono B1.out.size));have SZ0:=Yy (mn_size (mnA0_ok w1));have SO0:=Yy (mn_ones mnA0);have XB:=Yy (show MnAt (w1.setRow (w.heap.size+1) mnA0.cs.toArray) (w.heap.size+1) mnA0 from setRow_heap _ _ _ _ _ _ M2.out);have BX:=Yy (below_setRow B2.out (show w.heap.size≤w.heap.size+1 by omega) mnA0.cs.toArray);have NB:=Yy M2.out;unfold MnAt at NB;clear hb1;go_wp2_with (first | ((with_reducible refine wpList_build_at (o:=⟨some 10,.build 29 #[],_,_,_,_⟩) ?_ 29 #[] ?_ #[] ?_ _ (HB0.out _) ?_);rfl;rfl;simp) | ((with_reducible refine wpList_store_row (o:=⟨none,.store 29 (.tmp 2) (.tmp 10),_,_,_,_⟩) ?_ 29 (.tmp 2) (.tmp 10) ?_ (w.heap.size+1) mnA0.cs.toArray ?_ ?_ 29 _ NB.out SZ0.out rfl SO0.out ?_);rfl;rfl;rfl;rfl));refine bodyPost_ret (v:=.tuple #[mnA0.v,.bool false]) ?_ rfl ?_
  ·exact res_mn2 Tryz.results21 rfl XB.out (mnA0_ok _)
  ·rw[HF.out];exact⟨mnA0,rfl,rfl,mnA0_ok _,BX.out⟩
 ·rw[hm]at HCM HV;have HF:=Yy (show V=some (mof SH.sum D rs) by rw[HV.out];rfl);have HMB:=Yy (HMB.out hm);have HM10:=Yy (HM10.out hm);clear HV hm;have HB1:=Yy (build_mn HDL.out);have SZ1:=Yy (size_pre (v:=Value.slice none 0 0) (show (Tryz.prog.info? 29).map (·.size)=some (32+1) by kernel_rfl) (mnP_len HDL.out));have SQ1:=Yy (show mnA0.cs.toArray.size=(mnP D++[Value.slice none 0 0]).toArray.size by rw[mnA0_size,List.size_toArray,List.length_append,← mnP_len HDL.out];rfl);have SO1:=Yy (mnP_one D (v:=.slice none 0 0) rfl);have HP32:=Yy (mnP_len HDL.out);generalize hE2:(mnP D++[Value.slice none 0 0]).toArray=E2 at *;go_enter Tryz.func21,Tryz.ntmps21;go_wp2_with (first | ((with_reducible refine YyL 24 (.tmp 1) ⟨w.heap.size,0,none⟩ LB1.out ?_ ?_ ?_);rfl;rfl));refine HCM.out.mono ?_;rintro e w1 ⟨rfl,hb1⟩;have T2:=Yy (TT1.out.below hb1 TT1.out.lt);have M2:=Yy (MM1.out.below hb1 MM1.out.lt);have B2:=Yy (B1.out.trans (hb1.mono B1.out.size));have HS1:=Yy (show w.heap.size+1+1≤w1.heap.size by have:=hb1.size;rw[HSZ0.out _ rfl]at this;exact this);have LB2:=Yy T2.out.load;clear hb1;go_wp2_with (first | ((with_reducible refine YyL 24 (.tmp 1) ⟨w.heap.size,0,none⟩ LB2.out ?_ ?_ ?_);rfl;rfl));refine (HCD.out w1 B2.out).mono ?_;rintro e w2 ⟨rfl,hb2⟩;have T3:=Yy (T2.out.below hb2 T2.out.lt);have M3:=Yy (M2.out.below hb2 M2.out.lt);have B3:=Yy (B2.out.trans (hb2.mono B2.out.size));have HS2:=Yy (show w.heap.size+1+1≤w2.heap.size from Nat.le_trans HS1.out hb2.size)
  have s0:=(T3.out.old (.cells E2 29)).c0;clear hb2;go_wp2_with (first | ((with_reducible refine wpList_build_at (o:=⟨some 13,.build 29 #[(0,.tmp 12)],_,_,_,_⟩) ?_ 29 #[(0,.tmp 12)] ?_ #[(0,.agg (bvals D))] ?_ _ (HB1.out _) ?_);rfl;rfl;(simp only[List.map_toArray,List.map_cons,List.map_nil];rfl)) | ((with_reducible refine wpList_store_new (o:=⟨none,.store 29 (.tmp 4) (.tmp 13),_,_,_,_⟩) ?_ 29 (.tmp 4) (.tmp 13) ?_ ?_ mnA0.cs.toArray E2 ?_ SZ1.out SQ1.out SO1.out ?_);rfl;rfl;rfl;rfl));have J0:RJ TLn 63 29 w2.heap.size (w2.heap.size+1) (mnP D) (.slice none 0 0) [] (w2.alloc (.cells E2 29)):=by
   refine⟨?_,World.ownsRow_nil _ _ _ _,(fun e he=>by cases he),by omega,by rw[World.size_alloc];exact Nat.le_refl _⟩;rw[hE2];exact heap_alloc_new w2 _
  have JJ0:=Yy J0;have BW0:=Yy (B3.out.alloc B3.out.size (.cells E2 29));have HWS:=Yy (World.size_alloc w2 (.cells E2 29));have M4:=Yy (M3.out.below ((Below.refl _ _).alloc Nl (.cells E2 29)) M3.out.lt);generalize hW0:w2.alloc (.cells E2 29)=W0 at *;generalize w2.heap.size=bl at *;have HBL:=Yy (show bl≤W0.heap.size by have:=HWS.out;omega);have HWL:=Yy (show w.heap.size≤bl by have:=HS2.out;omega);clear s0 J0 hW0 hE2 hz hzne;have hz:=zeroX;go_loopw [17] (fun i wr=>∃ (k:Nat) (ls:List LnA) (v:Value),k≤n∧i=.int .i64 k∧ls.length=k∧Below bl W0 wr∧RJ TLn 63 29 bl (bl+1) (mnP D) v ls wr∧ls.map (fun l:LnA=>l.x)=(rs.take k).map (mofL SH.sum)) (fun i _=>n - (intOf i).toNat)
  case atStart=>exact⟨0,[],.slice none 0 0,Nat.zero_le _,rfl,rfl,Below.refl _ _,JJ0.out,rfl⟩
  case round=>
   obtain⟨k,ls,v,hk,rfl,hke,hb,hJ,hmp⟩:=hrel;have HKE:=Yy hke;have HMP:=Yy hmp;have HJ:=Yy hJ;have BWR:=Yy (BW0.out.trans (hb.mono HWL.out));clear hJ hmp hke;by_cases hlt:k<n
   ·have t1:(k:Int)<(n:Int):=by omega
    obtain⟨b,off,rfl,hbB,hcc⟩:=HCELL.out (by omega);have hx:=(hcc k hlt).same (BWR.out.block b hbB);have IX:=ix_rec b off n c k hlt k rfl;have HXV:=Yy (HRV.out k hlt);have HXM:=Yy (HMB.out k hlt);have HTK:=Yy (HRS.out k hlt);generalize xs.getD k rcA0=x at *;generalize off+k*19=o at *;have LX:=Yy hx.load;have HXZ:=Yy HXV.out.len;have SZX:=Yy (x_size HXZ.out);have SQX:=Yy (show rcA0.cells.size=x.cells.size from (rcells_size z16_len _ _ _).trans (cells_len HXZ.out).symm);have SOX:=Yy (x_one x);have HCB:=Yy (fun w9 (h9:Below w.heap.size w w9)=>lineOf_any x w9 (HLA.out w9 h9) (HXV.out.below h9 Nl) (by have:=rmay_len HXM.out;omega) (may_FOk HXM.out) (wf_may (by have h:=HXM.out;unfold Rc.may rmay at h;simp only[Bool.and_eq_true]at h;exact h.1.1)));unfold LOPost at HCB;have hO:=Yy (HJ.out.alloc (.cells x.cells 36));have hS0:=Yy (show Fr bl W0 wr.heap.size x.cells 36 (wr.alloc (.cells x.cells 36)) from⟨hb.trans ((Below.refl _ _).alloc (by have:=HBL.out;have:=hb.size;omega) _),heap_alloc_new wr _⟩);have HNE:=Yy (show wr.heap.size≠bl by have:=HWS.out;have:=hb.size;omega);have HLE:=Yy (show ls.length≤90000 by have:=HKE.out;have:=HM10.out;omega);clear hcc hb hx;go_wp2_with (first | ((with_reducible refine YyL 36 (.tmp 19) ⟨b,o,none⟩ LX.out ?_ ?_ ?_);rfl;rfl) | ((with_reducible refine wpList_store_new (o:=⟨none,.store 36 (.tmp 6) (.tmp 20),_,_,_,_⟩) ?_ 36 (.tmp 6) (.tmp 20) ?_ ?_ rcA0.cells x.cells ?_ SZX.out SQX.out SOX.out ?_);rfl;rfl;rfl;rfl));clear IX
    refine wp_region_held_drew (S:=fun w9=>Fr bl W0 wr.heap.size x.cells 36 w9) (by kernel_rfl) (hS0.out.below HBL.out ((Below.refl _ _).drew)) (fun hS=>?_);have J1:=Yy hO.out.drew;have S2:=Yy hS;generalize World.drew _=X at *;refine YHa 0 (some 21) rfl hS ?_;refine YHd 2 (some 23) (.agg x.cells) rfl hS (fun w9 hSw=>by exact exec_load_at 36 _ rfl ⟨wr.heap.size,0,none⟩ rfl (XAt.load ⟨HXZ.out,hSw.o⟩)) ?_;refine wpAnyH_ready (rs:=[1,3]) (by kernel_rfl) (by simp) (AllReadyH.cons (o:=⟨some 22,_,_,_,_,_⟩) rfl (fun K hK=>?_) (AllReadyH.cons (o:=⟨some 24,_,_,_,_,_⟩) rfl (fun K hK=>?_) AllReadyH.nil))
    ·have g0:=J1.out.cell HP32.out;go_simp;refine hK.out _ _ S2.out (fun hS=>?_);clear hK K g0
     try simp only[Act.put,Z2,Z3,Z4]
     refine wpAnyH_ready (rs:=[3]) (by kernel_rfl) (by simp) (AllReadyH.cons (o:=⟨some 24,_,_,_,_,_⟩) rfl (fun K hK=>?_) AllReadyH.nil);go_simp;refine (HCB.out _ (BW0.out.trans (S2.out.b.mono HWL.out))).mono ?_;rintro e X3 ⟨y,rfl,hyx,hyo,hyt,hb4⟩;have J5:=Yy (J1.out.below hb4);have S6:=Yy (S2.out.below HBL.out hb4);have HYX:=Yy hyx;have YO:=Yy (show TLn.K.ok X3 y∧TLn.tag X3 y from⟨hyo,hyt⟩);have YL:=Yy (show (KLn.cs y).length=KLn.n from LnA.len hyo);clear hyx hyo hyt;clear hb4;refine hK.out _ _ S6.out (fun hS=>?_);clear hK K
     try simp only[Act.put,Z2,Z3,Z4]
     refine wpAnyH_ready (rs:=[4]) (by kernel_rfl) (by simp) (AllReadyH.cons (o:=⟨some 25,_,_,_,_,_⟩) rfl (fun K hK=>?_) AllReadyH.nil);refine step_bsliceK (K:=KLn) rfl (.tmp 24) rfl y rfl YL.out Tryz.underlying27 sizeLn zeroLn nLn ?_;have J7:=Yy (J5.out.alloc (.cells (KLn.cs y).toArray 63));have S8:=Yy (S6.out.below HBL.out ((Below.refl _ _).alloc Nl (.cells (KLn.cs y).toArray 63)));have YO9:=Yy (show TLn.K.ok _ _∧TLn.tag _ _ from⟨TLn.K.below YO.out.1 ((Below.refl _ _).alloc Nl (.cells (KLn.cs y).toArray 63)),TLn.below YO.out.2 ((Below.refl _ _).alloc Nl (.cells (KLn.cs y).toArray 63))⟩);refine hK.out _ _ S8.out (fun hS=>?_);clear hK K
     try simp only[Act.put,Z2,Z3,Z4]
     refine wpAnyH_ready (rs:=[5]) (by kernel_rfl) (by simp) (AllReadyH.cons (o:=⟨some 26,_,_,_,_,_⟩) rfl (fun K hK=>?_) AllReadyH.nil);obtain⟨i0,hi,hz0,hz1,hz2⟩:=info_parts infoLn;refine step_append_K (K:=KLn) (o:=⟨some 26,_,_,_,_,_⟩) rfl _ _ 27 rfl (bl+1) 63 i0 _ 56 Tryz.underlying27 hi hz0 hz1 hz2 (by decide) (by decide) v ls y rfl J7.out.own HLE.out YL.out rfl J7.out.le ?_;intro v3 X3 ho3 hg3;obtain⟨g13,cap13,rfl⟩:=ownsRow_succ ho3;have M10:=Yy (J7.out.grown YO9.out ho3 hg3 (by decide));have S12:=Yy (J7.out.fr S8.out (by decide) hg3);have J11:=Yy (M10.out.store (by decide) HP32.out);have S13:=Yy (M10.out.fr (p:=32) S12.out HNE.out);clear ho3 hg3;refine hK.out _ _ S12.out (fun hS=>?_);clear hK K
     try simp only[Act.put,Z2,Z3,Z4]
     refine YHa 6 (some 27) rfl hS ?_;refine wpAnyH_ready (rs:=[7]) (by kernel_rfl) (by simp) (AllReadyH.cons (o:=⟨none,_,_,_,_,_⟩) rfl (fun K hK=>?_) AllReadyH.nil);have g0:=M10.out.cell HP32.out;have gf:=M10.out.fz 32;go_simp;refine hK.out _ _ S13.out (fun hS=>?_);clear hK K g0 gf
     try simp only[Act.put,Z2,Z3,Z4]
     refine wpAnyH_done (by kernel_rfl) ?_ _;have JE:=J11;have SE:=S13;exact Tta9
    ·go_simp;refine (HCB.out _ (BW0.out.trans (S2.out.b.mono HWL.out))).mono ?_;rintro e X14 ⟨y,rfl,hyx,hyo,hyt,hb15⟩;have J16:=Yy (J1.out.below hb15);have S17:=Yy (S2.out.below HBL.out hb15);have HYX:=Yy hyx;have YO:=Yy (show TLn.K.ok X14 y∧TLn.tag X14 y from⟨hyo,hyt⟩);have YL:=Yy (show (KLn.cs y).length=KLn.n from LnA.len hyo);clear hyx hyo hyt;clear hb15;refine hK.out _ _ S17.out (fun hS=>?_);clear hK K
     try simp only[Act.put,Z2,Z3,Z4]
     refine wpAnyH_ready (rs:=[1,4]) (by kernel_rfl) (by simp) (AllReadyH.cons (o:=⟨some 22,_,_,_,_,_⟩) rfl (fun K hK=>?_) (AllReadyH.cons (o:=⟨some 25,_,_,_,_,_⟩) rfl (fun K hK=>?_) AllReadyH.nil))
     ·have g0:=J16.out.cell HP32.out;go_simp;refine hK.out _ _ S17.out (fun hS=>?_);clear hK K g0
      try simp only[Act.put,Z2,Z3,Z4]
      refine wpAnyH_ready (rs:=[4]) (by kernel_rfl) (by simp) (AllReadyH.cons (o:=⟨some 25,_,_,_,_,_⟩) rfl (fun K hK=>?_) AllReadyH.nil);refine step_bsliceK (K:=KLn) rfl (.tmp 24) rfl y rfl YL.out Tryz.underlying27 sizeLn zeroLn nLn ?_;have J18:=Yy (J16.out.alloc (.cells (KLn.cs y).toArray 63));have S19:=Yy (S17.out.below HBL.out ((Below.refl _ _).alloc Nl (.cells (KLn.cs y).toArray 63)));have YO20:=Yy (show TLn.K.ok _ _∧TLn.tag _ _ from⟨TLn.K.below YO.out.1 ((Below.refl _ _).alloc Nl (.cells (KLn.cs y).toArray 63)),TLn.below YO.out.2 ((Below.refl _ _).alloc Nl (.cells (KLn.cs y).toArray 63))⟩);refine hK.out _ _ S19.out (fun hS=>?_);clear hK K
      try simp only[Act.put,Z2,Z3,Z4]
      refine wpAnyH_ready (rs:=[5]) (by kernel_rfl) (by simp) (AllReadyH.cons (o:=⟨some 26,_,_,_,_,_⟩) rfl (fun K hK=>?_) AllReadyH.nil);obtain⟨i0,hi,hz0,hz1,hz2⟩:=info_parts infoLn;refine step_append_K (K:=KLn) (o:=⟨some 26,_,_,_,_,_⟩) rfl _ _ 27 rfl (bl+1) 63 i0 _ 56 Tryz.underlying27 hi hz0 hz1 hz2 (by decide) (by decide) v ls y rfl J18.out.own HLE.out YL.out rfl J18.out.le ?_;intro v3 X3 ho3 hg3;obtain⟨g13,cap13,rfl⟩:=ownsRow_succ ho3;have M21:=Yy (J18.out.grown YO20.out ho3 hg3 (by decide));have S23:=Yy (J18.out.fr S19.out (by decide) hg3);have J22:=Yy (M21.out.store (by decide) HP32.out);have S24:=Yy (M21.out.fr (p:=32) S23.out HNE.out);clear ho3 hg3;refine hK.out _ _ S23.out (fun hS=>?_);clear hK K
      try simp only[Act.put,Z2,Z3,Z4]
      refine YHa 6 (some 27) rfl hS ?_;refine wpAnyH_ready (rs:=[7]) (by kernel_rfl) (by simp) (AllReadyH.cons (o:=⟨none,_,_,_,_,_⟩) rfl (fun K hK=>?_) AllReadyH.nil);have g0:=M21.out.cell HP32.out;have gf:=M21.out.fz 32;go_simp;refine hK.out _ _ S24.out (fun hS=>?_);clear hK K g0 gf
      try simp only[Act.put,Z2,Z3,Z4]
      refine wpAnyH_done (by kernel_rfl) ?_ _;have JE:=J22;have SE:=S24;exact Tta9
     ·refine step_bsliceK (K:=KLn) rfl (.tmp 24) rfl y rfl YL.out Tryz.underlying27 sizeLn zeroLn nLn ?_;have J25:=Yy (J16.out.alloc (.cells (KLn.cs y).toArray 63));have S26:=Yy (S17.out.below HBL.out ((Below.refl _ _).alloc Nl (.cells (KLn.cs y).toArray 63)));have YO27:=Yy (show TLn.K.ok _ _∧TLn.tag _ _ from⟨TLn.K.below YO.out.1 ((Below.refl _ _).alloc Nl (.cells (KLn.cs y).toArray 63)),TLn.below YO.out.2 ((Below.refl _ _).alloc Nl (.cells (KLn.cs y).toArray 63))⟩);refine hK.out _ _ S26.out (fun hS=>?_);clear hK K
      try simp only[Act.put,Z2,Z3,Z4]
      refine wpAnyH_ready (rs:=[1]) (by kernel_rfl) (by simp) (AllReadyH.cons (o:=⟨some 22,_,_,_,_,_⟩) rfl (fun K hK=>?_) AllReadyH.nil);have g0:=J25.out.cell HP32.out;go_simp;refine hK.out _ _ S26.out (fun hS=>?_);clear hK K g0
      try simp only[Act.put,Z2,Z3,Z4]
      refine wpAnyH_ready (rs:=[5]) (by kernel_rfl) (by simp) (AllReadyH.cons (o:=⟨some 26,_,_,_,_,_⟩) rfl (fun K hK=>?_) AllReadyH.nil);obtain⟨i0,hi,hz0,hz1,hz2⟩:=info_parts infoLn;refine step_append_K (K:=KLn) (o:=⟨some 26,_,_,_,_,_⟩) rfl _ _ 27 rfl (bl+1) 63 i0 _ 56 Tryz.underlying27 hi hz0 hz1 hz2 (by decide) (by decide) v ls y rfl J25.out.own HLE.out YL.out rfl J25.out.le ?_;intro v3 X3 ho3 hg3;obtain⟨g13,cap13,rfl⟩:=ownsRow_succ ho3;have M28:=Yy (J25.out.grown YO27.out ho3 hg3 (by decide));have S30:=Yy (J25.out.fr S26.out (by decide) hg3);have J29:=Yy (M28.out.store (by decide) HP32.out);have S31:=Yy (M28.out.fr (p:=32) S30.out HNE.out);clear ho3 hg3;refine hK.out _ _ S30.out (fun hS=>?_);clear hK K
      try simp only[Act.put,Z2,Z3,Z4]
      refine YHa 6 (some 27) rfl hS ?_;refine wpAnyH_ready (rs:=[7]) (by kernel_rfl) (by simp) (AllReadyH.cons (o:=⟨none,_,_,_,_,_⟩) rfl (fun K hK=>?_) AllReadyH.nil);have g0:=M28.out.cell HP32.out;have gf:=M28.out.fz 32;go_simp;refine hK.out _ _ S31.out (fun hS=>?_);clear hK K g0 gf
      try simp only[Act.put,Z2,Z3,Z4]
      refine wpAnyH_done (by kernel_rfl) ?_ _;have JE:=J29;have SE:=S31;exact Tta9
   ·obtain rfl:k=n:=by omega
    have t1:¬ (k:Int)<(k:Int):=by omega
    obtain⟨A4,c4,rfl⟩:=own_slice HJ.out.own;have HE:=Yy (HJ.out.mn ⟨HDL.out,HDB.out⟩);have LE:=Yy (load_mn HE.out.2.1 HE.out.1);rw[show MnA.v ⟨D,A4,c4,ls⟩=.agg (MnA.cs ⟨D,A4,c4,ls⟩).toArray from rfl]at LE;have NB:=Yy (M4.out.below hb (show w.heap.size+1<bl by have:=HS2.out;omega));have SZ2:=Yy (mn_size HE.out.1);have SQ2:=Yy (show mnA0.cs.toArray.size=(MnA.cs ⟨D,A4,c4,ls⟩).toArray.size by rw[mnA0_size,List.size_toArray];exact (MnA.len HE.out.1).symm);have SO2:=Yy (mn_ones ⟨D,A4,c4,ls⟩);have GS:=grownBy_setRow wr (w.heap.size+1) (MnA.cs ⟨D,A4,c4,ls⟩).toArray;have KX:=Yy (HE.out.2.2 _ _ NB.out _ GS);have XB:=Yy (show MnAt (wr.setRow (w.heap.size+1) (MnA.cs ⟨D,A4,c4,ls⟩).toArray) (w.heap.size+1) ⟨D,A4,c4,ls⟩ from setRow_heap _ _ _ _ _ _ NB.out);have BX:=Yy (below_setRow BWR.out (show w.heap.size≤w.heap.size+1 by omega) (MnA.cs ⟨D,A4,c4,ls⟩).toArray);have HFX:=Yy (show MnA.m ⟨D,A4,c4,ls⟩=mof SH.sum D rs by
     have h:=HMP.out;rw[List.take_of_length_le (by rw[HRL.out];exact Nat.le_refl _)]at h;unfold MnA.m mof;dsimp only;rw[h])
    clear hb GS;unfold MnAt at NB;go_wp2_with (first | ((with_reducible refine YyL 29 (.tmp 4) ⟨bl,0,none⟩ LE.out ?_ ?_ ?_);rfl;rfl) | ((with_reducible refine wpList_store_row (o:=⟨none,.store 29 (.tmp 2) (.tmp 29),_,_,_,_⟩) ?_ 29 (.tmp 2) (.tmp 29) ?_ (w.heap.size+1) (MnA.cs ⟨D,A4,c4,ls⟩).toArray ?_ ?_ 29 _ NB.out SZ2.out SQ2.out SO2.out ?_);rfl;rfl;rfl;rfl));refine bodyPost_ret (v:=.tuple #[MnA.v ⟨D,A4,c4,ls⟩,.bool true]) ?_ rfl ?_
    ·exact res_mn2 Tryz.results21 rfl XB.out KX.out
    ·rw[HF.out];exact⟨_,rfl,HFX.out,KX.out,BX.out⟩
end
section
open Go.RowKit WM
theorem may_X12:bmay [recX]=true:=rfl
end
section
open Go.RowKit WM
def fldX:Fld:=⟨2,⟨1,1,⟨#[120]⟩⟩⟩
theorem aparts_none {base:List Int}:aparts [recX] (mof SH.sum base [])=[recX]:=by
 unfold aparts;rw[show (bmay [recX] && mmay (mof SH.sum base []))=true from rfl,if_pos rfl];exact parts_all (fun x hx=>by rw[List.mem_singleton.1 hx];rfl)
theorem aparts_own {base:List Int} {Y:List Rc} (h:bmay Y=true):aparts Y (mof SH.sum base Y)=[]:=by
 unfold aparts
 split
 ·exact parts_own h
 ·rfl
theorem addE_X:addE [] recX=(0,[recX]):=by
 have hok:addOk [] recX:=⟨rfl,rfl,by unfold recX;simp,.inr rfl⟩;have hx:addY (addX [] recX) recX=(0,[recX]):=by
  unfold addX;rw[if_pos (show recX.n=0∧recX.r=0 from⟨rfl,rfl⟩)];unfold addY;rw[if_pos ⟨rfl,by unfold recX;simp⟩]
  rfl
 unfold addE;rw[if_pos hok,hx,if_pos rfl]
theorem exc_X0 {base:List Int}:exc fldX.c (mof SH.sum base []) z7 2=true:=by
 have h:=exc_mof base [] z7 fldX.c 2;rw[show ((2:Nat):Int)=2 from rfl]at h;rw[h]
 rfl
theorem exc_X1 {base:List Int}:exc fldX.c (mof SH.sum base [recX]) z7 2=false:=by
 have h:=exc_mof base [recX] z7 fldX.c 2;rw[show ((2:Nat):Int)=2 from rfl]at h;rw[h,bat_X];unfold excO;dsimp only;rw[show recX.at 2=some fldX.c from rfl];dsimp only;rw[if_pos ⟨rfl,rfl⟩,il_irr,Bool.and_false]
structure OneP (w:World) (lb lo fb fo:Nat) (x:RcA) (f:Fld):Prop where
 r:RecAt w lb lo x
 lt:lb<w.heap.size
 fl:KFl.at w fb fo f
 flt:fb<w.heap.size
 v:RvAt w x
theorem OneP.below {w w':World} {B lb lo fb fo:Nat} {x:RcA} {f:Fld} (h:OneP w lb lo fb fo x f) (hb:Below B w w') (hB:w.heap.size≤B):OneP w' lb lo fb fo x f:=
 have hb':=hb.mono hB
 ⟨h.r.same (hb'.block _ h.lt),Nat.lt_of_lt_of_le h.lt hb'.size,Kind.at_same h.fl (hb'.block _ h.flt),Nat.lt_of_lt_of_le h.flt hb'.size,h.v.below hb hB⟩
theorem one_part {w:World} {l:Bk} {R:Rc} {f:Fld} (hl:l.rs=[R]) (hk:BkAt w l) (hf:R.fs=[f]):∃ lb lo lc fb fo fc,l=⟨[⟨R,some ⟨fb,fo,none⟩,fc⟩],some ⟨lb,lo,none⟩,lc⟩∧OneP w lb lo fb fo ⟨R,some ⟨fb,fo,none⟩,fc⟩ f:=by
 obtain⟨xs,A,c⟩:=l;unfold Bk.rs at hl;dsimp only at hl
 match xs,hl with
 | [x],hl=>
  have hx:x.R=R:=by simpa using hl
  obtain⟨xR,xA,xc⟩:=x;dsimp only at hx;subst hx;obtain⟨h1,h2,h3,h4,h5⟩:=hk;obtain⟨b,off,hA,hlt,hc⟩:=h4 (by simp);have hv:=h5 _ (List.mem_singleton.2 rfl);obtain⟨k1,k2,k3,k4⟩:=hv.2;have hfl:xR.fs.length=1:=by rw[hf];rfl
  obtain⟨fb,fo,hfA,hfb,hfc⟩:=k4 (by show 0<xR.fs.length;omega);dsimp only at hA hfA;subst hA hfA;have hr:=hc 0 (by simp);rw[Nat.zero_mul,Nat.add_zero]at hr;have hq:=(FsAt.kfl hv.2).2.2.2.1 (by show 0<xR.fs.length;omega);obtain⟨b2,o2,e2,hb2,hc2⟩:=hq;cases e2;have hr2:=hc2 0 (by show 0<xR.fs.length;omega);rw[Nat.zero_mul,Nat.add_zero,show xR.fs.getD 0 KFl.d=f by rw[hf];rfl]at hr2;exact⟨b,off,c,fb,fo,xc,rfl,hr,hlt,hr2,hfb,hv⟩
end
section
open Go.RowKit Go.Shelf WM
def SeqG {α:Type} (n:Nat) (P:Program) (f:Nat) (lb:Array Value) (enc:α→Array Value) (Kp:World→World→Prop) (G:α→World→Prop) (S:List α→Prop) (N:Nat) (w:World):Prop:=
 ∀ (l:Nat) (J:List α→World→Prop) (V:World),Below w.heap.size w V→AbidesFrom V.heap.size J →
  (∀ pre x X,J pre X→G x X→pre.length<N→YieldAt Fence.wide (n - 1) P l (enc x) X fun e Y=>e=.returned (.bool true)∧J (pre++[x]) Y∧Kp X Y) →
  J [] V→CallsIn Fence.wide n P f (#[.func (.yield l) #[] #[]]++lb) V fun e Y=>(∃ v,e=.returned v)∧∃ xs,S xs∧J xs Y
def goesOn (B:Nat) (X:World) (T:World→Prop):Exit→Act→World→Prop
 | .normal,_,Y=>KeepsFrom B X Y∧T Y
 | _,_,_=>False
section
variable {α:Type} {P:Program} {n:Nat}
structure LoopAt (D:Nat) (r:Loop) (X:World):Prop where
 loop:X.heap[D+1]?=some (.loop r)
 defs:X.heap[D]?=some (.deferred (some []))
theorem LoopAt.keeps {D:Nat} {r:Loop} {X Y:World} (h:LoopAt D r X) (k:KeepsFrom D X Y):LoopAt D r Y:=
 ⟨k.same _ _ (Nat.le_succ _) h.loop rfl,k.same _ _ Nl h.defs rfl⟩
theorem LoopAt.turn {D:Nat} {r:Loop} {X:World} (h:LoopAt D r X) (r':Loop):LoopAt D r' (X.putObj (D+1) (.loop r')):=
 ⟨World.putObj_heap_same (Array.getElem?_eq_some_iff.1 h.loop).1,(World.putObj_heap_other (by omega)).trans h.defs⟩
theorem wpIn_range_G {g:Operand} {ps:Array Tmp} {assign body:Code} {Q:Exit→Act→World→Prop} {a:Act} {w:World} (h1:1≤n) {f:Nat} {lb:Array Value} (hg:a.eval g=.func (.func f) #[] lb) (he:Enters P f)
  {enc:α→Array Value} {Kp:World→World→Prop} {G:α→World→Prop} {S:List α→Prop} {N:Nat} (hseq:SeqG (n - 1) P f lb enc Kp G S N w) (hps:∀ x,(enc x).size=ps.size)
  (hKt:∀ {X Y Z:World},Kp X Y→Kp Y Z→Kp X Z) (hKb:∀ (X:World) (l:Nat) (o o':Obj),w.heap.size≤l→X.heap[l]?=some o→o.isCells=false→o.isWalk=false→Kp X (X.putObj l o'))
  (I:List α→World→Prop) (hI:OwnFrom w.heap.size I) (h0:I [] w) (A:α→Act→World→Prop) (hA:∀ x a',OwnFrom w.heap.size (fun (_:Unit) X=>A x a' X))
  (hassign:∀ (l:Nat) (pre:List α) (x:α) (X:World),I pre X→G x X →
   assign.wpIn (Fence.wide.inRound l) (n - 1 - 1) P (Exit.then (fun a' Y=>KeepsFrom w.heap.size X Y∧Kp X Y∧I pre Y∧A x a' Y) (fun _ _ _=>False)) { tmps:=(ps.zip (enc x)).foldl (fun t (p,v)=>t.setIfInBounds p v) a.tmps,defers:=[]} X)
  (hbody:∀ (l:Nat) (pre:List α) (x:α) (a':Act) (X:World),w.heap.size≤l→I pre X→A x a' X→pre.length<N →
   body.wpIn (Fence.wide.inRound l) (n - 1 - 1) P (goesOn w.heap.size X (fun Y=>Kp X Y∧I (pre++[x]) Y)) a' X)
  (hdone:∀ (D:Nat) (xs:List α) (X:World),w.heap.size≤D→S xs→I xs X→X.heap[D]?=some (.deferred (some []))→Q .normal { a with defers:={ target:=.collected D,args:=#[]}::a.defers} X):
  (Code.rangeFunc g ps assign body).wpIn Fence.wide n P Q a w:=by
 refine wpIn_rangeFunc fun fn hfn=>?_
 -- the loop's record, ready, busy
 obtain⟨D,hD⟩:∃ D,D=w.heap.size:=⟨_,rfl⟩;obtain⟨r,hr⟩:∃ r:Loop,r = { state:=.ready,pending:=none,fn:=fn,tmps:=a.tmps,params:=ps,assign:=assign,body:=body,defers:=w.heap.size}:=⟨_,rfl⟩;obtain⟨rb,hrb⟩:∃ rb:Loop,rb = { r with state:=.busy}:=⟨_,rfl⟩;have hr1:r.state=.ready:=by rw[hr]
 have hen:=run_enterLoop_outer (P:=P) (w:=w) fn a.tmps ps assign body;rw[← hr]at hen;obtain⟨w1,hw1⟩:∃ w1,w1=(w.alloc (.deferred (some []))).alloc (.loop r):=⟨_,rfl⟩;have hs1:w1.heap.size=D+2:=by rw[hw1,World.size_alloc,World.size_alloc,hD]
 have L1:LoopAt D r w1:=by
  constructor
  ·have:=heap_alloc_new (w.alloc (.deferred (some []))) (.loop r);rw[World.size_alloc,← hD,← hw1]at this;exact this
  ·rw[hw1,hD];exact (Below.heap_alloc _ _ _ (by simp)).trans (heap_alloc_new w _)
 have B1:Below w.heap.size w w1:=by rw[hw1];exact ((Below.refl _ w).alloc Nl _).alloc (by simp) _
 have I1:I [] w1:=by rw[hw1];exact hI.alloc _ (hI.alloc _ h0)
 rw[← hw1,← hD]at hen;rw[← hD]at hI hA hKb hassign hbody hdone;refine⟨D+1,[{ target:=.collected D,args:=#[]}],w1,{ target:=.fn (.func f) lb,args:=#[.func (.yield (D+1)) #[] #[]]},w1,f,#[.func (.yield (D+1)) #[] #[]]++lb,w1,hen,?_,fun _ _=>trivial,?_,fun _=>h1,?_⟩
 ·simp only[resolve,hg];simp[go_sem]
 ·have h9:=he (#[.func (.yield (D+1)) #[] #[]]++lb) w1;simp[invoke,go_sem];exact h9
 refine (hseq (D+1) (fun pre X=>I pre X∧LoopAt D r X) w1 B1 ?_ ?_ ⟨I1,L1⟩).mono ?_
 ·-- what the function itself does leaves the two blocks,and what the caller keeps
  rintro s X Y row ⟨h2,h3⟩ hgr hrow;have hrow2:∀ k,row=some k→∃ o:Obj,X.heap[k]?=some o∧o.isWalk=true:=fun k e=>(hrow k e).2;refine⟨hI s X Y row h2 hgr fun k e=>?_,(grownBy_keeps hgr hrow2 h3.loop rfl).trans h3.loop,(grownBy_keeps hgr hrow2 h3.defs rfl).trans h3.defs⟩;obtain⟨hb,o,ho,hw⟩:=hrow k e;exact⟨by omega,o,ho,Obj.not_cells_of_walk hw⟩
 ·-- a round
  rintro pre x X ⟨h2,h3⟩ hG hlen;have hy:=run_yield (P:=P) (args:=enc x) h3.loop (by rw[hr];exact hps x);refine⟨r.fn,_,r.assign,r.body,hy,roundIn_of_wpIn (by trivial) ?_⟩;rw[show r.assign=assign by rw[hr],show r.body=body by rw[hr],show r.params=ps by rw[hr],show r.tmps=a.tmps by rw[hr]];refine wpIn_mono (hassign _ pre x X h2 hG) ?_;intro e a' Y hp;cases e with
  | normal=>
   obtain⟨hk,hkp,hi,ha⟩:=hp;have h4:=h3.keeps hk;have L5:=h4.turn rb;have hlb:=Array.getElem?_eq_some_iff.1 h4.loop;have hbr:=run_beginRound (P:=P) h4.loop hr1;rw[← hrb]at hbr;refine⟨_,hbr,wpIn_mono (hbody (D+1) pre x a' _ (by omega) (hI.putObj _ hi (by omega) h4.loop rfl) ((hA x a').putObj (s:=()) _ ha (by omega) h4.loop rfl) hlen) ?_⟩;intro e2 a2 Z hp2;cases e2 with
   | normal=>
    obtain⟨hk2,hkp2,hi2⟩:=hp2;have L6:=L5.keeps hk2;have her:=run_endRound (P:=P) none L6.loop;have hrr:({ rb with state:=if (none:Option Code).isNone then LoopState.ready else LoopState.done,pending:=none}:Loop)=r:=by rw[hrb,hr];rfl
    rw[hrr]at her;exact⟨_,_,her,rfl,⟨hI.putObj _ hi2 (by omega) L6.loop rfl,L6.turn r⟩,hKt hkp (hKt (hKb _ _ _ _ (by omega) h4.loop rfl rfl) (hKt hkp2 (hKb _ _ _ _ (by omega) L6.loop rfl rfl)))⟩
   | ret=>exact hp2.elim
   | exit id=>exact hp2.elim
   | goto t=>exact hp2.elim
   | panic ch=>exact hp2.elim
   | outgrown=>exact hp2.elim
  | ret=>exact hp.elim
  | exit id=>exact hp.elim
  | goto t=>exact hp.elim
  | panic ch=>exact hp.elim
  | outgrown=>exact hp.elim
 ·-- all have come
  rintro e Y ⟨⟨v,rfl⟩,xs,hS,hi,hL⟩;have hel:=run_endLoop (P:=P) hL.loop (by rw[hr1];decide);rw[show r.pending=none by rw[hr]]at hel;exact⟨none,_,hel,hdone D xs _ Nl hS (hI.putObj _ hi (by omega) hL.loop rfl) ((World.putObj_heap_other (by omega)).trans hL.defs)⟩
end
end
end Go.Proofs.YtnlhkpmgbpfjmaaGreatDoor
