import Derived.Test.YtnlhkpmgbpfjmaaGreatDoorQe20
import Derived.WalkLawsBesides
import Derived.Recover
import Derived.Laws.Cover3
import Derived.Defers
/- What functions answer, part 21. -/
namespace Go.Proofs.YtnlhkpmgbpfjmaaGreatDoor
set_option linter.unusedVariables false
set_option linter.unusedSimpArgs false
set_option maxHeartbeats 16000000
set_option maxRecDepth 100000
section
open Go.RowKit WM
def FOk (f:Fld):Prop:=((Lit.int .i64 f.no).wf=true∧(Lit.int .i64 f.c.n).wf=true∧(Lit.int .i64 f.c.r).wf=true)∧f.c.s.size≤2000000
theorem wf_small {n:Int} (h0:-9223372036854775808≤n) (h1:n≤9223372036854775807):(Lit.int .i64 n).wf=true:=by
 exact Tta54
theorem wf_may {n r:Int} (h:may n r=true):(Lit.int .i64 n).wf=true∧(Lit.int .i64 r).wf=true:=by
 rw[may_iff]at h;exact⟨wf_small (by omega) (by omega),wf_small (by omega) (by omega)⟩
theorem may_FOk {R:Rc} (h:R.may=true):∀ f∈R.fs,FOk f:=fun f hf=>by
 obtain⟨h1,h2,h3,_⟩:=rmay_all h f hf;obtain⟨h4,_,h5⟩:=cmay_iff.1 h3;exact⟨⟨wf_small (by omega) (by omega),wf_may h4⟩,by omega⟩
theorem res_ln1 {fn:Func} {p:Tmp} (h:fn.results=#[.cell p 63]) {tmps:Array Value} {w:World} {g:Nat} {x:LnA} (hp:tmps.getD p undef=.pointer (some ⟨g,0,none⟩)) (hs:KLn.blk 63 w g x) (hx:x.Ok w):
  (results fn tmps).run Tryz.prog w=.ok (KLn.v x) w:=by
 exact Tta39
def LOPost (w:World) (R:Rc) (e:Ending) (w':World):Prop:=∃ y:LnA,e=.returned (KLn.v y)∧y.x=mofL SH.sum R∧y.Ok w'∧y.T w'∧Below w.heap.size w w'
theorem RJ.line {bl base:Nat} {z:List Int} {n r:Int} {A:Option Addr} {c:Nat} {es:List EnA} {W:World} (h:RJ TEn 68 63 bl base (lnP z n r) (.slice A es.length c) es W) (hz:z.length=16∧AllBytes z) (hn:(Lit.int .i64 n).wf=true∧(Lit.int .i64 r).wf=true):
  LnA.Ok W ⟨z,n,r,A,c,es⟩∧LnA.T W ⟨z,n,r,A,c,es⟩∧KLn.blk 63 W bl ⟨z,n,r,A,c,es⟩:=by
 refine⟨⟨hz.1,hz.2,hn.1,hn.2,Kind.row_own (K:=KEn) h.own fun e he=>(h.ok e he).1⟩,⟨Tag.own h.own,fun e he=>(h.ok e he).2⟩,?_⟩;unfold Kind.blk;rw[show KLn.cs ⟨z,n,r,A,c,es⟩=lnP z n r++[.slice A es.length c] from ln_cs _];exact h.blk
theorem Tta7 {p:Prop} (h:p:=by
  generalize hv4:(Value.slice (some ⟨g13,0,none⟩) (es.length+1) cap13)=v4 at *;clear hv4;have HM2:=Yy (show (es++[(⟨⟨no,cn,cr,s.size,D,G⟩,A4,c4⟩:EnA)]).map (fun e:EnA=>e.e)=(fs.take (k+1)).map (mofE SH.sum) by
   rw[HTK.out,List.map_append,List.map_append,HMP.out];simp only[mofE,List.map_cons,List.map_nil,HDD.out,HGG.out])
  go_wp2;go_roundw
  case rel=>exact⟨k+1,es++[(⟨⟨no,cn,cr,s.size,D,G⟩,A4,c4⟩:EnA)],v4,by omega,by go_num,by rw[List.length_append,HKE.out];rfl,SE.out.b,JE.out,HM2.out⟩
  case measure=>simp[intOf];omega
 ):p:=h
theorem lineOf_any (x:RcA) (w:World) (hlaid:Laid w) (h:RvAt w x) (hl:x.R.fs.length≤1000) (hf:∀ f∈x.R.fs,FOk f) (hn:(Lit.int .i64 x.R.n).wf=true∧(Lit.int .i64 x.R.r).wf=true):Calls Tryz.prog 51 #[.agg x.cells] w (LOPost w x.R):=by
 have HLA:=Yy (fun (X:World) (hX:Below w.heap.size w X)=>hlaid.below hX Nl);have HZ:=Yy h.1;have HN:=Yy hn;have C1:=(XAt.new w h.len).old (.cells (KLn.cs lnA0).toArray 63);have LZ:=Yy C1.load_id;have d16:=C1.c16;have d17:=C1.c17;have D1:=C1.old (.cells (lnP x.R.z x.R.n x.R.r++[Value.slice none 0 0]).toArray 63);have d18:=D1.c18;have BU:Below w.heap.size w ((w.alloc (.cells x.cells 36)).alloc (.cells (KLn.cs lnA0).toArray 63)):=((Below.refl _ _).alloc Nl _).alloc (by rw[World.size_alloc];omega) _;have BV:Below w.heap.size w (((w.alloc (.cells x.cells 36)).alloc (.cells (KLn.cs lnA0).toArray 63)).alloc (.cells (lnP x.R.z x.R.n x.R.r++[Value.slice none 0 0]).toArray 63)):=BU.alloc BU.size _;have BW0:=Yy BV;have R0:=Kind.blk_old (Kind.blk_new (K:=KLn) (w.alloc (.cells x.cells 36)) lnA0 63) (.cells (lnP x.R.z x.R.n x.R.r++[Value.slice none 0 0]).toArray 63);rw[World.size_alloc]at R0;have J0:RJ TEn 68 63 (w.heap.size+1+1) (w.heap.size+1+1+1) (lnP x.R.z x.R.n x.R.r) (.slice none 0 0) [] (((w.alloc (.cells x.cells 36)).alloc (.cells (KLn.cs lnA0).toArray 63)).alloc (.cells (lnP x.R.z x.R.n x.R.r++[Value.slice none 0 0]).toArray 63)):=by
  refine⟨?_,World.ownsRow_nil _ _ _ _,(fun e he=>by cases he),by omega,by simp[World.size_alloc]⟩;have:=heap_alloc_new ((w.alloc (.cells x.cells 36)).alloc (.cells (KLn.cs lnA0).toArray 63)) (.cells (lnP x.R.z x.R.n x.R.r++[Value.slice none 0 0]).toArray 63)
  simpa [World.size_alloc] using this
 have HB1:=Yy (build_ln h.len x.R.n x.R.r);have SZ:=Yy (size_pre (v:=Value.slice none 0 0) (show (Tryz.prog.info? 63).map (·.size)=some (18+1) by kernel_rfl) (lnP_len h.len x.R.n x.R.r));have SQ:=Yy (show (KLn.cs lnA0).toArray.size=(lnP x.R.z x.R.n x.R.r++[Value.slice none 0 0]).toArray.size by rw[lnA0_size,List.size_toArray,List.length_append,← lnP_len h.len];rfl);have SO:=Yy (lnP_one x.R.z x.R.n x.R.r (v:=.slice none 0 0) rfl);have HP18:=Yy (lnP_len h.len x.R.n x.R.r);have HCELL:=Yy h.2.2.2.2;have hlc:=h.2.1;have hcm:=h.2.2.1;simp only[maxLen]at hcm;have HFO:=Yy (fun k (hk:k<x.R.fs.length)=>hf (x.R.fs.getD k fld0) (by rw[List.getD_eq_getElem?_getD,List.getElem?_eq_getElem hk];exact List.getElem_mem _));have hz:=zeroLn;rw[show KLn.v lnA0=.agg (KLn.cs lnA0).toArray from rfl]at hz;have hzne:¬ (KLn.cs lnA0).toArray=#[]:=by decide
 have hzs:=lnA0_size;obtain⟨⟨z,dn,dr,fs⟩,A,c⟩:=x
 try unfold RcA.s at d18
 dsimp only at *;have HWV:=Yy (show ∀ W,W=(((w.alloc (.cells (RcA.cells ⟨⟨z,dn,dr,fs⟩,A,c⟩) 36)).alloc (.cells (KLn.cs lnA0).toArray 63)).alloc (.cells (lnP z dn dr++[Value.slice none 0 0]).toArray 63))→W.heap.size=w.heap.size+1+1+1 from fun W e=>by rw[e];simp[World.size_alloc]);generalize RcA.cells ⟨⟨z,dn,dr,fs⟩,A,c⟩=EX at *;generalize hE2:(lnP z dn dr++[Value.slice none 0 0]).toArray=E2 at *;have JJ0:=Yy J0;have RR0:=Yy R0;generalize hnl:fs.length=n at *;have HNL:=Yy hnl;have HL:=Yy hl;clear C1 D1 BU BV R0 J0 h hf hn hlaid hE2 hnl;go_enter Tryz.func51,Tryz.ntmps51;go_wp2_with (first | ((with_reducible refine YyL 31 (.tmp 7) ⟨w.heap.size,0,none⟩ LZ.out ?_ ?_ ?_);rfl;rfl) | ((with_reducible refine wpList_build_at (o:=⟨some 11,.build 63 #[(0,.tmp 8),(1,.tmp 10)],_,_,_,_⟩) ?_ 63 #[(0,.tmp 8),(1,.tmp 10)] ?_ #[(0,.agg (bvals z)),(1,.agg #[.int .i64 dn,.int .i64 dr])] ?_ _ (HB1.out _) ?_);rfl;rfl;(simp only[List.map_toArray,List.map_cons,List.map_nil];rfl)) | ((with_reducible refine wpList_store_new (o:=⟨none,.store 63 (.tmp 3) (.tmp 11),_,_,_,_⟩) ?_ 63 (.tmp 3) (.tmp 11) ?_ ?_ (KLn.cs lnA0).toArray E2 ?_ SZ.out SQ.out SO.out ?_);rfl;rfl;(first | rfl | exact congrArg (fun q=>Value.pointer (some ⟨q,0,none⟩)) (by simp[World.size_alloc]));rfl));generalize hW0:((w.alloc (.cells EX 36)).alloc (.cells (KLn.cs lnA0).toArray 63)).alloc (.cells E2 63)=W0 at *;have HWS:=Yy (HWV.out W0 rfl);have HBL:=Yy (show w.heap.size+1+1≤W0.heap.size by have:=HWS.out;omega)
 have HWL:=Yy (show w.heap.size≤w.heap.size+1+1 by omega);clear d16 d17 d18 hW0 hz hzne hzs;go_loopw [15] (fun i wr=>∃ (k:Nat) (es:List EnA) (v:Value),k≤n∧i=.int .i64 k∧es.length=k∧Below (w.heap.size+1+1) W0 wr∧RJ TEn 68 63 (w.heap.size+1+1) (w.heap.size+1+1+1) (lnP z dn dr) v es wr∧es.map (fun e:EnA=>e.e)=(fs.take k).map (mofE SH.sum)) (fun i _=>n - (intOf i).toNat)
 case atStart=>exact⟨0,[],.slice none 0 0,Nat.zero_le _,rfl,rfl,Below.refl _ _,JJ0.out,rfl⟩
 case round=>
  obtain⟨k,es,v,hk,rfl,hke,hb,hJ,hmp⟩:=hrel;have HBB:=Yy hb;have HKE:=Yy hke;have HMP:=Yy hmp;have HJ:=Yy hJ;have BWR:=Yy (BW0.out.trans (hb.mono HWL.out));clear hJ hmp hke;by_cases hlt:k<n
  ·have t1:(k:Int)<(n:Int):=by omega
   obtain⟨b,off,rfl,hbB,hcc⟩:=HCELL.out (by omega);obtain⟨c0,c1,c2,c3⟩:=hcc k hlt;have c0:=(BWR.out.cell (p:=⟨b,off+k*4,none⟩) hbB).trans c0;have c1:=(BWR.out.cell (p:=⟨b,off+k*4+1,none⟩) hbB).trans c1;have c2:=(BWR.out.cell (p:=⟨b,off+k*4+2,none⟩) hbB).trans c2;have c3:=(BWR.out.cell (p:=⟨b,off+k*4+3,none⟩) hbB).trans c3;have IX:=ix_fld b off n c k hlt k rfl;have HFOk:=HFO.out k hlt;have HTK:=Yy (show fs.take (k+1)=fs.take k++[fs.getD k fld0] by
    rw[List.take_succ_eq_append_getElem (by rw[HNL.out];exact hlt),List.getD_eq_getElem?_getD,List.getElem?_eq_getElem (by rw[HNL.out];exact hlt)]
    rfl)
   generalize fs.getD k fld0=f at c0 c1 c2 c3 HFOk HTK;obtain⟨no,cn,cr,s⟩:=f;unfold FOk at HFOk;dsimp only at c0 c1 c2 c3 HFOk;have HCA:=Yy (fun w9 (h9:Below w.heap.size w w9)=>of_any s w9 (HLA.out w9 h9) (by have:=HFOk.2;omega));unfold DSumPost at HCA;have HCB:=Yy (fun w9 (h9:Below w.heap.size w w9)=>of10_new s w9 (HLA.out w9 h9) HFOk.2);unfold KPostN at HCB;have HDL:=Yy (SH.sum_len (nums s));have HDB:=Yy (SH.sum_bytes (nums s));have HSZ:=HFOk.2;have HFO:=Yy (show (Lit.int .i64 no).wf=true∧(Lit.int .i64 cn).wf=true∧(Lit.int .i64 cr).wf=true∧(Lit.int .i64 (s.size:Int)).wf=true from⟨HFOk.1.1,HFOk.1.2.1,HFOk.1.2.2,wf_small (by omega) (by omega)⟩);generalize hD:SH.sum (nums s)=D at *;generalize hG:sgOf (nums s)=G at *;have HDD:=Yy hD;have HGG:=Yy hG;generalize off+k*4=o at c0 c1 c2 c3 IX;have hO:=Yy (HJ.out.alloc (.cells #[.int .i64 no,.int .i64 cn,.int .i64 cr,.string s] 59));have hF:=FlAt.new wr ⟨no,⟨cn,cr,s⟩⟩;dsimp only at hF;have g3:=FlAt.c3 hF;dsimp only at g3;have hS0:=Yy (show Fr (w.heap.size+1+1) W0 wr.heap.size #[.int .i64 no,.int .i64 cn,.int .i64 cr,.string s] 59 (wr.alloc (.cells #[.int .i64 no,.int .i64 cn,.int .i64 cr,.string s] 59)) from⟨hb.trans ((Below.refl _ _).alloc (by have:=HBL.out;have:=hb.size;omega) _),hF⟩);have HNE:=Yy (show wr.heap.size≠w.heap.size+1+1 by have:=HWS.out;have:=hb.size;omega);have HLE:=Yy (show es.length≤90000 by have:=HKE.out;have:=HL.out;omega);clear hcc hb HFOk hD hG hF;go_wp2_with fail;clear c0 c1 c2 c3 IX g3
   refine wp_region_held_drew (S:=fun w9=>Fr (w.heap.size+1+1) W0 wr.heap.size #[.int .i64 no,.int .i64 cn,.int .i64 cr,.string s] 59 w9) (by kernel_rfl) (hS0.out.below HBL.out ((Below.refl _ _).drew)) (fun hS=>?_);have J1:=Yy hO.out.drew;have S2:=Yy hS;generalize World.drew _=X at *;refine YHa 0 (some 22) rfl hS ?_;refine YHa 2 (some 24) rfl hS ?_;refine YHd 3 (some 25) _ rfl hS (fun w9 hSw=>by have q0:=cell_of_row _ _ 0 _ _ _ hSw.o;simp at q0;go_simp;try with_reducible rfl) ?_;refine YHa 4 (some 26) rfl hS ?_;refine YHa 5 (some 27) rfl hS ?_;refine YHd 6 (some 28) _ rfl hS (fun w9 hSw=>by have q0:=cell_of_row _ _ 1 _ _ _ hSw.o;have q1:=cell_of_row _ _ 2 _ _ _ hSw.o;simp at q0 q1;go_simp;try with_reducible rfl) ?_;refine YHa 7 (some 29) rfl hS ?_;refine YHa 8 (some 30) rfl hS ?_;refine YHa 9 (some 31) rfl hS ?_;refine YHa 11 (some 33) rfl hS ?_;refine wpAnyH_ready (rs:=[1,10]) (by kernel_rfl) (by simp) (AllReadyH.cons (o:=⟨some 23,_,_,_,_,_⟩) rfl (fun K hK=>?_) (AllReadyH.cons (o:=⟨some 32,_,_,_,_,_⟩) rfl (fun K hK=>?_) AllReadyH.nil))
   ·have g0:=J1.out.cell HP18.out;go_simp;refine hK.out _ _ S2.out (fun hS=>?_);clear hK K g0
    try simp only[Act.put,Z2,Z3,Z4]
    refine wpAnyH_ready (rs:=[10]) (by kernel_rfl) (by simp) (AllReadyH.cons (o:=⟨some 32,_,_,_,_,_⟩) rfl (fun K hK=>?_) AllReadyH.nil);go_simp;refine (HCA.out _ (BW0.out.trans (S2.out.b.mono HWL.out))).mono ?_;rintro e X3 ⟨rfl,hb4⟩;have J5:=Yy (J1.out.below hb4);have S6:=Yy (S2.out.below HBL.out hb4);clear hb4;refine hK.out _ _ S6.out (fun hS=>?_);clear hK K
    try simp only[Act.put,Z2,Z3,Z4]
    refine wpAnyH_ready (rs:=[12]) (by kernel_rfl) (by simp) (AllReadyH.cons (o:=⟨some 34,_,_,_,_,_⟩) rfl (fun K hK=>?_) AllReadyH.nil);go_simp;refine (HCB.out _ (BW0.out.trans (S6.out.b.mono HWL.out))).mono ?_;rintro e X7 ⟨A4,c4,rfl,hr4,hb8,ht4⟩;have J9:=Yy (J5.out.below hb8);have S10:=Yy (S6.out.below HBL.out hb8);have YO:=Yy (show TEn.K.ok X7 (⟨⟨no,cn,cr,s.size,D,G⟩,A4,c4⟩:EnA)∧TEn.tag X7 (⟨⟨no,cn,cr,s.size,D,G⟩,A4,c4⟩:EnA) from⟨⟨HFO.out.1,HFO.out.2.1,HFO.out.2.2.1,HFO.out.2.2.2,HDL.out,HDB.out,hr4⟩,ht4⟩);have YL:=Yy (show (KEn.cs (⟨⟨no,cn,cr,s.size,D,G⟩,A4,c4⟩:EnA)).length=KEn.n from EnA.len YO.out.1);clear hr4 ht4;clear hb8;refine hK.out _ _ S10.out (fun hS=>?_);clear hK K
    try simp only[Act.put,Z2,Z3,Z4]
    refine YHd 13 (some 35) (.agg (KEn.cs (⟨⟨no,cn,cr,s.size,D,G⟩,A4,c4⟩:EnA)).toArray) rfl hS (fun w9 hSw=>by have q0:=build_en (x:=(⟨⟨no,cn,cr,s.size,D,G⟩,A4,c4⟩:EnA)) HDL.out w9;dsimp only at q0;exact exec_build_at 68 #[(0,.tmp 25),(1,.tmp 28),(2,.tmp 30),(3,.tmp 32),(4,.tmp 34)] rfl _ (by simp only[List.map_toArray,List.map_cons,List.map_nil];rfl) q0) ?_;refine wpAnyH_ready (rs:=[14]) (by kernel_rfl) (by simp) (AllReadyH.cons (o:=⟨some 36,_,_,_,_,_⟩) rfl (fun K hK=>?_) AllReadyH.nil);refine step_bsliceK (K:=KEn) rfl (.tmp 35) rfl (⟨⟨no,cn,cr,s.size,D,G⟩,A4,c4⟩:EnA) rfl YL.out Tryz.underlying61 sizeEn zeroEn nEn ?_;have J11:=Yy (J9.out.alloc (.cells (KEn.cs (⟨⟨no,cn,cr,s.size,D,G⟩,A4,c4⟩:EnA)).toArray 68));have S12:=Yy (S10.out.below HBL.out ((Below.refl _ _).alloc Nl (.cells (KEn.cs (⟨⟨no,cn,cr,s.size,D,G⟩,A4,c4⟩:EnA)).toArray 68)));have YO13:=Yy (show TEn.K.ok _ _∧TEn.tag _ _ from⟨TEn.K.below YO.out.1 ((Below.refl _ _).alloc Nl (.cells (KEn.cs (⟨⟨no,cn,cr,s.size,D,G⟩,A4,c4⟩:EnA)).toArray 68)),TEn.below YO.out.2 ((Below.refl _ _).alloc Nl (.cells (KEn.cs (⟨⟨no,cn,cr,s.size,D,G⟩,A4,c4⟩:EnA)).toArray 68))⟩);refine hK.out _ _ S12.out (fun hS=>?_);clear hK K
    try simp only[Act.put,Z2,Z3,Z4]
    refine wpAnyH_ready (rs:=[15]) (by kernel_rfl) (by simp) (AllReadyH.cons (o:=⟨some 37,_,_,_,_,_⟩) rfl (fun K hK=>?_) AllReadyH.nil);obtain⟨i0,hi,hz0,hz1,hz2⟩:=info_parts infoEn;refine step_append_K (K:=KEn) (o:=⟨some 37,_,_,_,_,_⟩) rfl _ _ 61 rfl (w.heap.size+1+1+1) 68 i0 _ 88 Tryz.underlying61 hi hz0 hz1 hz2 (by decide) (by decide) v es (⟨⟨no,cn,cr,s.size,D,G⟩,A4,c4⟩:EnA) rfl J11.out.own HLE.out YL.out rfl J11.out.le ?_;intro v3 X3 ho3 hg3;obtain⟨g13,cap13,rfl⟩:=ownsRow_succ ho3;have M14:=Yy (J11.out.grown YO13.out ho3 hg3 (by decide));have S16:=Yy (J11.out.fr S12.out (by decide) hg3);have J15:=Yy (M14.out.store (by decide) HP18.out);have S17:=Yy (M14.out.fr (p:=18) S16.out HNE.out);clear ho3 hg3;refine hK.out _ _ S16.out (fun hS=>?_);clear hK K
    try simp only[Act.put,Z2,Z3,Z4]
    refine YHa 16 (some 38) rfl hS ?_;refine wpAnyH_ready (rs:=[17]) (by kernel_rfl) (by simp) (AllReadyH.cons (o:=⟨none,_,_,_,_,_⟩) rfl (fun K hK=>?_) AllReadyH.nil);have g0:=M14.out.cell HP18.out;have gf:=M14.out.fz 18;go_simp;refine hK.out _ _ S17.out (fun hS=>?_);clear hK K g0 gf
    try simp only[Act.put,Z2,Z3,Z4]
    refine wpAnyH_done (by kernel_rfl) ?_ _;have JE:=J15;have SE:=S17;exact Tta7
   ·go_simp;refine (HCA.out _ (BW0.out.trans (S2.out.b.mono HWL.out))).mono ?_;rintro e X18 ⟨rfl,hb19⟩;have J20:=Yy (J1.out.below hb19);have S21:=Yy (S2.out.below HBL.out hb19);clear hb19;refine hK.out _ _ S21.out (fun hS=>?_);clear hK K
    try simp only[Act.put,Z2,Z3,Z4]
    refine wpAnyH_ready (rs:=[1,12]) (by kernel_rfl) (by simp) (AllReadyH.cons (o:=⟨some 23,_,_,_,_,_⟩) rfl (fun K hK=>?_) (AllReadyH.cons (o:=⟨some 34,_,_,_,_,_⟩) rfl (fun K hK=>?_) AllReadyH.nil))
    ·have g0:=J20.out.cell HP18.out;go_simp;refine hK.out _ _ S21.out (fun hS=>?_);clear hK K g0
     try simp only[Act.put,Z2,Z3,Z4]
     refine wpAnyH_ready (rs:=[12]) (by kernel_rfl) (by simp) (AllReadyH.cons (o:=⟨some 34,_,_,_,_,_⟩) rfl (fun K hK=>?_) AllReadyH.nil);go_simp;refine (HCB.out _ (BW0.out.trans (S21.out.b.mono HWL.out))).mono ?_;rintro e X22 ⟨A4,c4,rfl,hr4,hb23,ht4⟩;have J24:=Yy (J20.out.below hb23);have S25:=Yy (S21.out.below HBL.out hb23);have YO:=Yy (show TEn.K.ok X22 (⟨⟨no,cn,cr,s.size,D,G⟩,A4,c4⟩:EnA)∧TEn.tag X22 (⟨⟨no,cn,cr,s.size,D,G⟩,A4,c4⟩:EnA) from⟨⟨HFO.out.1,HFO.out.2.1,HFO.out.2.2.1,HFO.out.2.2.2,HDL.out,HDB.out,hr4⟩,ht4⟩);have YL:=Yy (show (KEn.cs (⟨⟨no,cn,cr,s.size,D,G⟩,A4,c4⟩:EnA)).length=KEn.n from EnA.len YO.out.1);clear hr4 ht4;clear hb23;refine hK.out _ _ S25.out (fun hS=>?_);clear hK K
     try simp only[Act.put,Z2,Z3,Z4]
     refine YHd 13 (some 35) (.agg (KEn.cs (⟨⟨no,cn,cr,s.size,D,G⟩,A4,c4⟩:EnA)).toArray) rfl hS (fun w9 hSw=>by have q0:=build_en (x:=(⟨⟨no,cn,cr,s.size,D,G⟩,A4,c4⟩:EnA)) HDL.out w9;dsimp only at q0;exact exec_build_at 68 #[(0,.tmp 25),(1,.tmp 28),(2,.tmp 30),(3,.tmp 32),(4,.tmp 34)] rfl _ (by simp only[List.map_toArray,List.map_cons,List.map_nil];rfl) q0) ?_;refine wpAnyH_ready (rs:=[14]) (by kernel_rfl) (by simp) (AllReadyH.cons (o:=⟨some 36,_,_,_,_,_⟩) rfl (fun K hK=>?_) AllReadyH.nil);refine step_bsliceK (K:=KEn) rfl (.tmp 35) rfl (⟨⟨no,cn,cr,s.size,D,G⟩,A4,c4⟩:EnA) rfl YL.out Tryz.underlying61 sizeEn zeroEn nEn ?_;have J26:=Yy (J24.out.alloc (.cells (KEn.cs (⟨⟨no,cn,cr,s.size,D,G⟩,A4,c4⟩:EnA)).toArray 68));have S27:=Yy (S25.out.below HBL.out ((Below.refl _ _).alloc Nl (.cells (KEn.cs (⟨⟨no,cn,cr,s.size,D,G⟩,A4,c4⟩:EnA)).toArray 68)));have YO28:=Yy (show TEn.K.ok _ _∧TEn.tag _ _ from⟨TEn.K.below YO.out.1 ((Below.refl _ _).alloc Nl (.cells (KEn.cs (⟨⟨no,cn,cr,s.size,D,G⟩,A4,c4⟩:EnA)).toArray 68)),TEn.below YO.out.2 ((Below.refl _ _).alloc Nl (.cells (KEn.cs (⟨⟨no,cn,cr,s.size,D,G⟩,A4,c4⟩:EnA)).toArray 68))⟩);refine hK.out _ _ S27.out (fun hS=>?_);clear hK K
     try simp only[Act.put,Z2,Z3,Z4]
     refine wpAnyH_ready (rs:=[15]) (by kernel_rfl) (by simp) (AllReadyH.cons (o:=⟨some 37,_,_,_,_,_⟩) rfl (fun K hK=>?_) AllReadyH.nil);obtain⟨i0,hi,hz0,hz1,hz2⟩:=info_parts infoEn;refine step_append_K (K:=KEn) (o:=⟨some 37,_,_,_,_,_⟩) rfl _ _ 61 rfl (w.heap.size+1+1+1) 68 i0 _ 88 Tryz.underlying61 hi hz0 hz1 hz2 (by decide) (by decide) v es (⟨⟨no,cn,cr,s.size,D,G⟩,A4,c4⟩:EnA) rfl J26.out.own HLE.out YL.out rfl J26.out.le ?_;intro v3 X3 ho3 hg3;obtain⟨g13,cap13,rfl⟩:=ownsRow_succ ho3;have M29:=Yy (J26.out.grown YO28.out ho3 hg3 (by decide));have S31:=Yy (J26.out.fr S27.out (by decide) hg3);have J30:=Yy (M29.out.store (by decide) HP18.out);have S32:=Yy (M29.out.fr (p:=18) S31.out HNE.out);clear ho3 hg3;refine hK.out _ _ S31.out (fun hS=>?_);clear hK K
     try simp only[Act.put,Z2,Z3,Z4]
     refine YHa 16 (some 38) rfl hS ?_;refine wpAnyH_ready (rs:=[17]) (by kernel_rfl) (by simp) (AllReadyH.cons (o:=⟨none,_,_,_,_,_⟩) rfl (fun K hK=>?_) AllReadyH.nil);have g0:=M29.out.cell HP18.out;have gf:=M29.out.fz 18;go_simp;refine hK.out _ _ S32.out (fun hS=>?_);clear hK K g0 gf
     try simp only[Act.put,Z2,Z3,Z4]
     refine wpAnyH_done (by kernel_rfl) ?_ _;have JE:=J30;have SE:=S32;exact Tta7
    ·go_simp;refine (HCB.out _ (BW0.out.trans (S21.out.b.mono HWL.out))).mono ?_;rintro e X33 ⟨A4,c4,rfl,hr4,hb34,ht4⟩;have J35:=Yy (J20.out.below hb34);have S36:=Yy (S21.out.below HBL.out hb34);have YO:=Yy (show TEn.K.ok X33 (⟨⟨no,cn,cr,s.size,D,G⟩,A4,c4⟩:EnA)∧TEn.tag X33 (⟨⟨no,cn,cr,s.size,D,G⟩,A4,c4⟩:EnA) from⟨⟨HFO.out.1,HFO.out.2.1,HFO.out.2.2.1,HFO.out.2.2.2,HDL.out,HDB.out,hr4⟩,ht4⟩);have YL:=Yy (show (KEn.cs (⟨⟨no,cn,cr,s.size,D,G⟩,A4,c4⟩:EnA)).length=KEn.n from EnA.len YO.out.1);clear hr4 ht4;clear hb34;refine hK.out _ _ S36.out (fun hS=>?_);clear hK K
     try simp only[Act.put,Z2,Z3,Z4]
     refine YHd 13 (some 35) (.agg (KEn.cs (⟨⟨no,cn,cr,s.size,D,G⟩,A4,c4⟩:EnA)).toArray) rfl hS (fun w9 hSw=>by have q0:=build_en (x:=(⟨⟨no,cn,cr,s.size,D,G⟩,A4,c4⟩:EnA)) HDL.out w9;dsimp only at q0;exact exec_build_at 68 #[(0,.tmp 25),(1,.tmp 28),(2,.tmp 30),(3,.tmp 32),(4,.tmp 34)] rfl _ (by simp only[List.map_toArray,List.map_cons,List.map_nil];rfl) q0) ?_;refine wpAnyH_ready (rs:=[1,14]) (by kernel_rfl) (by simp) (AllReadyH.cons (o:=⟨some 23,_,_,_,_,_⟩) rfl (fun K hK=>?_) (AllReadyH.cons (o:=⟨some 36,_,_,_,_,_⟩) rfl (fun K hK=>?_) AllReadyH.nil))
     ·have g0:=J35.out.cell HP18.out;go_simp;refine hK.out _ _ S36.out (fun hS=>?_);clear hK K g0
      try simp only[Act.put,Z2,Z3,Z4]
      refine wpAnyH_ready (rs:=[14]) (by kernel_rfl) (by simp) (AllReadyH.cons (o:=⟨some 36,_,_,_,_,_⟩) rfl (fun K hK=>?_) AllReadyH.nil);refine step_bsliceK (K:=KEn) rfl (.tmp 35) rfl (⟨⟨no,cn,cr,s.size,D,G⟩,A4,c4⟩:EnA) rfl YL.out Tryz.underlying61 sizeEn zeroEn nEn ?_;have J37:=Yy (J35.out.alloc (.cells (KEn.cs (⟨⟨no,cn,cr,s.size,D,G⟩,A4,c4⟩:EnA)).toArray 68));have S38:=Yy (S36.out.below HBL.out ((Below.refl _ _).alloc Nl (.cells (KEn.cs (⟨⟨no,cn,cr,s.size,D,G⟩,A4,c4⟩:EnA)).toArray 68)));have YO39:=Yy (show TEn.K.ok _ _∧TEn.tag _ _ from⟨TEn.K.below YO.out.1 ((Below.refl _ _).alloc Nl (.cells (KEn.cs (⟨⟨no,cn,cr,s.size,D,G⟩,A4,c4⟩:EnA)).toArray 68)),TEn.below YO.out.2 ((Below.refl _ _).alloc Nl (.cells (KEn.cs (⟨⟨no,cn,cr,s.size,D,G⟩,A4,c4⟩:EnA)).toArray 68))⟩);refine hK.out _ _ S38.out (fun hS=>?_);clear hK K
      try simp only[Act.put,Z2,Z3,Z4]
      refine wpAnyH_ready (rs:=[15]) (by kernel_rfl) (by simp) (AllReadyH.cons (o:=⟨some 37,_,_,_,_,_⟩) rfl (fun K hK=>?_) AllReadyH.nil);obtain⟨i0,hi,hz0,hz1,hz2⟩:=info_parts infoEn;refine step_append_K (K:=KEn) (o:=⟨some 37,_,_,_,_,_⟩) rfl _ _ 61 rfl (w.heap.size+1+1+1) 68 i0 _ 88 Tryz.underlying61 hi hz0 hz1 hz2 (by decide) (by decide) v es (⟨⟨no,cn,cr,s.size,D,G⟩,A4,c4⟩:EnA) rfl J37.out.own HLE.out YL.out rfl J37.out.le ?_;intro v3 X3 ho3 hg3;obtain⟨g13,cap13,rfl⟩:=ownsRow_succ ho3;have M40:=Yy (J37.out.grown YO39.out ho3 hg3 (by decide));have S42:=Yy (J37.out.fr S38.out (by decide) hg3);have J41:=Yy (M40.out.store (by decide) HP18.out);have S43:=Yy (M40.out.fr (p:=18) S42.out HNE.out);clear ho3 hg3;refine hK.out _ _ S42.out (fun hS=>?_);clear hK K
      try simp only[Act.put,Z2,Z3,Z4]
      refine YHa 16 (some 38) rfl hS ?_;refine wpAnyH_ready (rs:=[17]) (by kernel_rfl) (by simp) (AllReadyH.cons (o:=⟨none,_,_,_,_,_⟩) rfl (fun K hK=>?_) AllReadyH.nil);have g0:=M40.out.cell HP18.out;have gf:=M40.out.fz 18;go_simp;refine hK.out _ _ S43.out (fun hS=>?_);clear hK K g0 gf
      try simp only[Act.put,Z2,Z3,Z4]
      refine wpAnyH_done (by kernel_rfl) ?_ _;have JE:=J41;have SE:=S43;exact Tta7
     ·refine step_bsliceK (K:=KEn) rfl (.tmp 35) rfl (⟨⟨no,cn,cr,s.size,D,G⟩,A4,c4⟩:EnA) rfl YL.out Tryz.underlying61 sizeEn zeroEn nEn ?_;have J44:=Yy (J35.out.alloc (.cells (KEn.cs (⟨⟨no,cn,cr,s.size,D,G⟩,A4,c4⟩:EnA)).toArray 68));have S45:=Yy (S36.out.below HBL.out ((Below.refl _ _).alloc Nl (.cells (KEn.cs (⟨⟨no,cn,cr,s.size,D,G⟩,A4,c4⟩:EnA)).toArray 68)));have YO46:=Yy (show TEn.K.ok _ _∧TEn.tag _ _ from⟨TEn.K.below YO.out.1 ((Below.refl _ _).alloc Nl (.cells (KEn.cs (⟨⟨no,cn,cr,s.size,D,G⟩,A4,c4⟩:EnA)).toArray 68)),TEn.below YO.out.2 ((Below.refl _ _).alloc Nl (.cells (KEn.cs (⟨⟨no,cn,cr,s.size,D,G⟩,A4,c4⟩:EnA)).toArray 68))⟩);refine hK.out _ _ S45.out (fun hS=>?_);clear hK K
      try simp only[Act.put,Z2,Z3,Z4]
      refine wpAnyH_ready (rs:=[1]) (by kernel_rfl) (by simp) (AllReadyH.cons (o:=⟨some 23,_,_,_,_,_⟩) rfl (fun K hK=>?_) AllReadyH.nil);have g0:=J44.out.cell HP18.out;go_simp;refine hK.out _ _ S45.out (fun hS=>?_);clear hK K g0
      try simp only[Act.put,Z2,Z3,Z4]
      refine wpAnyH_ready (rs:=[15]) (by kernel_rfl) (by simp) (AllReadyH.cons (o:=⟨some 37,_,_,_,_,_⟩) rfl (fun K hK=>?_) AllReadyH.nil);obtain⟨i0,hi,hz0,hz1,hz2⟩:=info_parts infoEn;refine step_append_K (K:=KEn) (o:=⟨some 37,_,_,_,_,_⟩) rfl _ _ 61 rfl (w.heap.size+1+1+1) 68 i0 _ 88 Tryz.underlying61 hi hz0 hz1 hz2 (by decide) (by decide) v es (⟨⟨no,cn,cr,s.size,D,G⟩,A4,c4⟩:EnA) rfl J44.out.own HLE.out YL.out rfl J44.out.le ?_;intro v3 X3 ho3 hg3;obtain⟨g13,cap13,rfl⟩:=ownsRow_succ ho3;have M47:=Yy (J44.out.grown YO46.out ho3 hg3 (by decide));have S49:=Yy (J44.out.fr S45.out (by decide) hg3);have J48:=Yy (M47.out.store (by decide) HP18.out);have S50:=Yy (M47.out.fr (p:=18) S49.out HNE.out);clear ho3 hg3;refine hK.out _ _ S49.out (fun hS=>?_);clear hK K
      try simp only[Act.put,Z2,Z3,Z4]
      refine YHa 16 (some 38) rfl hS ?_;refine wpAnyH_ready (rs:=[17]) (by kernel_rfl) (by simp) (AllReadyH.cons (o:=⟨none,_,_,_,_,_⟩) rfl (fun K hK=>?_) AllReadyH.nil);have g0:=M47.out.cell HP18.out;have gf:=M47.out.fz 18;go_simp;refine hK.out _ _ S50.out (fun hS=>?_);clear hK K g0 gf
      try simp only[Act.put,Z2,Z3,Z4]
      refine wpAnyH_done (by kernel_rfl) ?_ _;have JE:=J48;have SE:=S50;exact Tta7
  ·obtain rfl:k=n:=by omega
   have t1:¬ (k:Int)<(k:Int):=by omega
   obtain⟨A4,c4,rfl⟩:=own_slice HJ.out.own;have HE:=Yy (HJ.out.line HZ.out HN.out);have LE:=Yy (load_ln (Kind.at_blk HE.out.2.2) HE.out.1);rw[show KLn.v ⟨z,dn,dr,A4,c4,es⟩=.agg (KLn.cs ⟨z,dn,dr,A4,c4,es⟩).toArray from rfl]at LE;have NB:=Yy (Kind.blk_below RR0.out hb (show w.heap.size+1<w.heap.size+1+1 by omega));have SZ:=Yy (ln_size HE.out.1);have SQ:=Yy (show (KLn.cs lnA0).toArray.size=(KLn.cs ⟨z,dn,dr,A4,c4,es⟩).toArray.size by rw[lnA0_size,List.size_toArray];exact (LnA.len HE.out.1).symm);have SO:=Yy (ln_ones ⟨z,dn,dr,A4,c4,es⟩);have GS:=grownBy_setRow wr (w.heap.size+1) (KLn.cs ⟨z,dn,dr,A4,c4,es⟩).toArray;have KX:=Yy (LnA.kept HE.out.1 HE.out.2.1 GS (NoT.of NB.out (by decide)));have XB:=Yy (show KLn.blk 63 (wr.setRow (w.heap.size+1) (KLn.cs ⟨z,dn,dr,A4,c4,es⟩).toArray) (w.heap.size+1) ⟨z,dn,dr,A4,c4,es⟩ from setRow_heap _ _ _ _ _ _ NB.out);have BX:=Yy (below_setRow BWR.out (show w.heap.size≤w.heap.size+1 by omega) (KLn.cs ⟨z,dn,dr,A4,c4,es⟩).toArray);have HFX:=Yy (show LnA.x ⟨z,dn,dr,A4,c4,es⟩=mofL SH.sum ⟨z,dn,dr,fs⟩ by
    have h:=HMP.out;rw[List.take_of_length_le (by rw[HNL.out];exact Nat.le_refl _)]at h;unfold LnA.x mofL;dsimp only;rw[h])
   clear hb GS;unfold Kind.blk at NB;go_wp2_with (first | ((with_reducible refine YyL 63 (.tmp 3) ⟨w.heap.size+1+1,0,none⟩ LE.out ?_ ?_ ?_);rfl;rfl) | ((with_reducible refine wpList_store_row (o:=⟨none,.store 63 (.tmp 2) (.tmp 40),_,_,_,_⟩) ?_ 63 (.tmp 2) (.tmp 40) ?_ (w.heap.size+1) (KLn.cs ⟨z,dn,dr,A4,c4,es⟩).toArray ?_ ?_ 63 _ NB.out SZ.out SQ.out SO.out ?_);rfl;rfl;rfl;rfl));refine bodyPost_ret (v:=KLn.v ⟨z,dn,dr,A4,c4,es⟩) ?_ rfl ?_
   ·exact res_ln1 Tryz.results51 rfl XB.out KX.out.1
   ·exact⟨_,rfl,HFX.out,KX.out.1,KX.out.2,BX.out⟩
end
section
section
open Go.RowKit WM
theorem text_gives (s:ByteArray) (w:World) (hs:s.size≤140737488355000):Calls Tryz.prog 136 #[.string s] w (Gives w (txt s)):=by
 obtain⟨i0,hi,hz0,hz1,hz2⟩:=info_parts infoByte;have hel:=enc_len s.size;go_enter Tryz.func136,Tryz.ntmps136;go_wp2_with (first
  | (go_at_call 106;refine (put_gives _ _ (by omega) (by omega)).mono ?_;rintro e w1 ⟨A,n,c,rfl,hn,hnc,hcm,hown,hbel⟩;have HN:=Yy hn;clear hn)
  | (at_builtin;refine Lib.wpList_append_own_string _ rfl _ _ 105 9 rfl w.heap.size 5 i0 Tryz.underlying105 Tryz.underlying9 hi hz0 hz1 hz2 (.slice A n c) n _ rfl hown s rfl ?h1 ?h2 hbel.size ?_;rotate_right;intro v2 w2 ho2 hg2 _))
 case h1=>have:=HN.out;unfold maxLen;omega
 case h2=>have:=HN.out;omega
 go_ret;refine gives_own (n:=n+s.size) ?_ (hbel.grown hg2 hbel.size (fun g hg=>own_base hown hg));rw[txt,List.map_append,nums_cells];exact ho2
end
section
open Go.RowKit WM
end
section
open Go.RowKit WM
def cenc (c:Cel):List Int:=enc (c.n*8+c.r)++txt c.s
theorem cenc_bytes (c:Cel):AllBytes (cenc c):=all_append (enc_bytes _) (txt_bytes _)
theorem cenc_len (c:Cel) (h:c.s.size≤200):(cenc c).length≤220∧2≤(cenc c).length:=by
 have h1:=enc_len (c.n*8+c.r);have h2:=enc_len c.s.size;have h3:=nums_len c.s;unfold cenc txt;rw[List.length_append,List.length_append];omega
def CPutPost (w:World) (c:Cel) (e:Ending) (w':World):Prop:=
 if cmay c then GivesT w (cenc c) e w' else e=.returned (.tuple #[.slice none 0 0,.bool false])∧Below w.heap.size w w'
theorem cput_any (c:Cel) (w:World):Calls Tryz.prog 123 #[c.v] w (CPutPost w c):=by
 obtain⟨i0,hi,hz0,hz1,hz2⟩:=info_parts infoByte;have S0:=Yy (ClAt.new w c);have B0:=Yy ((((Below.refl w.heap.size w).alloc Nl (.cells #[.int .i64 c.n,.int .i64 c.r,.string c.s] 38))));have HP:=Yy (stPut_any c.n c.r);have HM:=Yy (cmay_any c);cases hm:cmay c
 ·have HN:Hid (∀ e w',e=.returned (.tuple #[.slice none 0 0,.bool false])→Below w.heap.size w w'→CPutPost w c e w'):=Yy (fun e w' h1 h2=>by unfold CPutPost;rw[hm];exact⟨h1,h2⟩);rw[hm]at HM;unfold StPutPost at HP;clear hm;cases hs:may c.n c.r
  ·rw[hs]at HP;simp only[Bool.false_eq_true,if_false]at HP;unfold st at HP;unfold Cel.v;clear hs;go_enter Tryz.func123,Tryz.ntmps123;go_wp2_with fail;refine (HP.out _).mono ?_;rintro e w1 ⟨rfl,hb⟩;have B1:=Yy (B0.out.trans (hb.mono B0.out.size));clear hb;go_wp2
   go_ret2
   exact HN.out _ _ rfl B1.out
  ·rw[hs]at HP;simp only[if_true]at HP;unfold st at HP;unfold Cel.v at HM ⊢;clear hs;go_enter Tryz.func123,Tryz.ntmps123;go_wp2_with fail;refine (HP.out _).mono ?_;rintro e w1 ⟨A,n,k,rfl,hn,hnk,hkm,hown,hb⟩;have B1:=Yy (B0.out.trans (hb.mono B0.out.size));have s0:=S0.out.below hb S0.out.lt;have a0:=s0.c0;have a1:=s0.c1;have a2:=s0.c2;clear hb s0 hn hnk hkm hown;go_wp2_with fail;refine (HM.out _).mono ?_;rintro e w2 ⟨rfl,hb⟩;have B2:=Yy (B1.out.trans (hb.mono B1.out.size));clear hb a0 a1 a2;go_wp2
   go_ret2
   exact HN.out _ _ rfl B2.out
 ·have HN:Hid (∀ e w',GivesT w (cenc c) e w'→CPutPost w c e w'):=Yy (fun e w' h1=>by unfold CPutPost;rw[hm];exact h1);rw[hm]at HM;obtain⟨hs,hn1,hsz⟩:=cmay_iff.1 hm;have HT:=Yy (fun w=>text_gives c.s w (by omega));have hlen:=cenc_len c hsz;unfold cenc at hlen HN;rw[List.length_append]at hlen;unfold StPutPost at HP;rw[hs]at HP;simp only[if_true]at HP;generalize enc (c.n*8+c.r)=E at *;generalize txt c.s=F at *;unfold st at HP;unfold Cel.v at HM ⊢;clear hs hm hn1 hsz;go_enter Tryz.func123,Tryz.ntmps123;go_wp2_with fail;refine (HP.out _).mono ?_;rintro e w1 ⟨A,n,k,rfl,hn,hnk,hkm,hown,hb⟩;have B1:=Yy (B0.out.trans (hb.mono B0.out.size));have O1:=Yy (own_wide hown B0.out.size);have S1:=Yy (S0.out.below hb S0.out.lt);have a0:=S1.out.c0;have a1:=S1.out.c1;have a2:=S1.out.c2;have HL1:=Yy hn;clear hb hn hnk hkm hown;go_wp2_with fail;refine (HM.out _).mono ?_;rintro e w2 ⟨rfl,hb⟩;have B2:=Yy (B1.out.trans (hb.mono B1.out.size));have O2:=Yy (own_below O1.out hb);have S2:=Yy (S1.out.below hb S1.out.lt);clear hb a0 a1 a2;have a2:=S2.out.c2;go_wp2_with fail;refine (HT.out _).mono ?_;rintro e w3 ⟨A3,n3,k3,rfl,hn3,hnk3,hkm3,hown3,hb⟩;have B3:=Yy (B2.out.trans (hb.mono B2.out.size));have O3:=Yy (own_below O2.out hb);have hnil:=Yy (own_nil hown3);have hby:=Yy (Byt.own hown3);have HL3:=Yy hn3;have hlen3:n+n3≤140737488355328:=by have:=HL1.out;omega
  clear hb a2 hn3 hnk3 hkm3 hown3 hlen;go_wp2_with (at_builtin;refine wpList_append_byt _ rfl _ _ 105 rfl w.heap.size 5 i0 Tryz.underlying105 hi hz0 hz1 hz2 _ n E rfl O3.out w3.heap.size A3 n3 k3 F rfl hby.out HL3.out hnil.out hlen3 B3.out.size ?_;intro v4 w4 ho4 hg4;have G4:=Yy (HN.out _ _ (givesT_own ho4 (B3.out.grown hg4 B3.out.size (fun g hg=>own_base O3.out hg))));clear ho4 hg4)
  go_ret2
  exact G4.out
end
end
section
namespace WM
def decR:Nat→Bool→Int→List Int→Option (Int×Nat)
 | 0,_,_,_=>none
 | _+1,_,_,[]=>none
 | r+1,first,acc,b::t=>
  if (first && b == 128)=true then none else if 144115188075855871<acc then none else
  if b<128 then some (acc*128+b % 128,1) else (decR r false (acc*128+b % 128) t).map fun p=>(p.1,p.2+1)
end WM
namespace WM
def dec (zs:List Int):Option (Int×Nat):=decR 10 true 0 zs
end WM
section
open Go.RowKit WM
def cnt (most:Int) (zs:List Int):Option (Nat×List Int):=
 match dec zs with
 | none=>none
 | some (n,k)=>if n≤most then some (n.toNat,zs.drop k) else none
end
section
open Go.RowKit WM
end
section
open Go.RowKit WM
end
section
open Go.RowKit WM
end
end
section
open Go.RowKit WM
def fenc (f:Fld):List Int:=f.no::cenc f.c
def renc (R:Rc):List Int:=R.z++(enc (R.n*8+R.r)++(enc R.fs.length++R.fs.flatMap fenc))
def benc (X:List Rc):List Int:=enc X.length++X.flatMap renc
theorem okFrom_mem {n r:Int}:∀ {fs:List Fld} {m:Int},0≤m→okFrom n r m fs=true→∀ f∈fs,0≤f.no∧f.no<8∧cmay f.c=true
 | [],_,_,_,f,hf=>by cases hf
 | g::fs,m,hm,h,f,hf=>by
  rw[okFrom]at h;simp only[Bool.and_eq_true,decide_eq_true_eq]at h;rcases List.mem_cons.1 hf with rfl | hf
  ·exact⟨by omega,h.1.1.1.2,h.1.1.2⟩
  ·exact okFrom_mem (m:=g.no+1) (by omega) h.2 f hf
theorem may_fs {R:Rc} (h:R.may=true):may R.n R.r=true∧R.fs.length≤8∧∀ f∈R.fs,0≤f.no∧f.no<8∧cmay f.c=true:=by
 have h':=h;unfold Rc.may rmay at h';simp only[Bool.and_eq_true]at h';exact⟨h'.1.1,rmay_len h,okFrom_mem (Int.le_refl 0) h'.2⟩
theorem fenc_len {f:Fld} (h:cmay f.c=true):(fenc f).length≤221∧1≤(fenc f).length:=by
 unfold fenc;have:=cenc_len f.c (by have:=(cmay_iff.1 h).2.2;omega);rw[List.length_cons];omega
theorem flat_len {α:Type} {g:α→List Int} {b:Nat}:∀ {l:List α},(∀ a∈l,(g a).length≤b)→(l.flatMap g).length≤l.length*b
 | [],_=>by simp
 | a::l,h=>by
  have h1:=h a List.mem_cons_self;have h2:=flat_len (l:=l) fun x hx=>h x (List.mem_cons_of_mem _ hx);rw[List.flatMap_cons,List.length_append,List.length_cons,Nat.add_mul];omega
theorem renc_len {R:Rc} (hz:R.z.length=16) (h:R.may=true):(renc R).length≤2000:=by
 obtain⟨h1,h2,h3⟩:=may_fs h;have h4:=flat_len (g:=fenc) (b:=221) (l:=R.fs) fun f hf=>(fenc_len (h3 f hf).2.2).1;have h5:=(enc_len (R.n*8+R.r)).2;have h6:=(enc_len (R.fs.length:Int)).2;unfold renc;rw[List.length_append,List.length_append,List.length_append,hz];omega
theorem benc_len {X:List Rc} (h:bmay X=true) (hz:∀ R∈X,R.z.length=16):(benc X).length≤30000:=by
 obtain⟨h1,h2,h3⟩:=bmay_iff.1 h;have h4:=flat_len (g:=renc) (b:=2000) (l:=X) fun R hR=>renc_len (hz R hR) (h2 R hR);have h5:=(enc_len (X.length:Int)).2;unfold benc;rw[List.length_append];omega
theorem flat_bytes {α:Type} {g:α→List Int} {l:List α} (h:∀ a∈l,AllBytes (g a)):AllBytes (l.flatMap g):=fun z hz=>by
 obtain⟨a,ha,hz⟩:=List.mem_flatMap.1 hz;exact h a ha z hz
theorem fenc_bytes {f:Fld} (h0:0≤f.no) (h8:f.no<8):AllBytes (fenc f):=fun z hz=>by
 rcases List.mem_cons.1 hz with rfl | hz
 ·omega
 ·exact cenc_bytes _ z hz
theorem renc_bytes {R:Rc} (hk:R.Ok) (h:R.may=true):AllBytes (renc R):=
 all_append hk.2 (all_append (enc_bytes _) (all_append (enc_bytes _) (flat_bytes fun f hf=>fenc_bytes ((may_fs h).2.2 f hf).1 ((may_fs h).2.2 f hf).2.1)))
theorem benc_bytes {X:List Rc} (h:bmay X=true) (hk:∀ R∈X,R.Ok):AllBytes (benc X):=
 all_append (enc_bytes _) (flat_bytes fun R hR=>renc_bytes (hk R hR) ((bmay_iff.1 h).2.1 R hR))
theorem bk_ok {w:World} {b:Bk} (h:BkAt w b):∀ R∈b.rs,R.Ok:=fun R hR=>by
 obtain⟨x,hx,rfl⟩:=List.mem_map.1 hR;exact (h.2.2.2.2 x hx).1
end
end Go.Proofs.YtnlhkpmgbpfjmaaGreatDoor
