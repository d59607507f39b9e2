import Derived.Test.YtnlhkpmgbpfjmaaGreatDoorQd14
/- What functions answer, part 15. -/
namespace Go.Proofs.YtnlhkpmgbpfjmaaGreatDoor
set_option linter.unusedVariables false
set_option linter.unusedSimpArgs false
set_option maxHeartbeats 16000000
set_option maxRecDepth 100000
section
section
open Go.RowKit WM
def lastF (s:Int×Int) (fs:List Fld):Int×Int:=fs.foldl (fun s f=>mx s (f.c.n,f.c.r)) s
def lastR (s:Int×Int) (r:Rc):Int×Int:=lastF (mx s (r.n,r.r)) r.fs
def blast (rs:List Rc):Int×Int:=rs.foldl lastR (0,0)
theorem lastF_snoc {s:Int×Int} {fs:List Fld} {k:Nat} (hk:k<fs.length):lastF s (fs.take (k+1))=mx (lastF s (fs.take k)) ((fs.getD k fld0).c.n,(fs.getD k fld0).c.r):=by
 unfold lastF;rw[List.take_succ_eq_append_getElem hk,List.foldl_append];simp only[List.foldl_cons,List.foldl_nil,List.getD,List.getElem?_eq_getElem hk,Option.getD_some]
theorem last_snoc {xs:List RcA} {k:Nat} (hk:k<xs.length):((xs.take (k+1)).map (·.R)).foldl lastR (0,0)=lastR (((xs.take k).map (·.R)).foldl lastR (0,0)) (xs.getD k rcA0).R:=by
 exact Tta58
theorem blast_any (b:Bk) (w:World) (h:BkAt w b):
  Calls Tryz.prog 65 #[.agg #[.slice b.A b.xs.length b.c]] w fun e w'=>e=.returned (st (blast b.rs).1 (blast b.rs).2)∧Below w.heap.size w w':=by
 obtain⟨xs,A,c⟩:=b;dsimp only at h ⊢;have s0:=(((BoAt.new w (.slice A xs.length c)).old (.cells #[.int .i64 0,.int .i64 0] 33)).old (.cells #[.int .i64 0,.int .i64 0] 33));have c00:=s0.c0;have r1:=(StAt.new (w.alloc (.cells #[.slice A xs.length c] 24)) 0 0).old (.cells #[.int .i64 0,.int .i64 0] 33);rw[World.size_alloc]at r1;have r2:=StAt.new ((w.alloc (.cells #[.slice A xs.length c] 24)).alloc (.cells #[.int .i64 0,.int .i64 0] 33)) 0 0;rw[World.size_alloc,World.size_alloc]at r2;have HB:=Yy ((((Below.refl w.heap.size w).alloc Nl (.cells #[.slice A xs.length c] 24)).alloc (by simp) (.cells #[.int .i64 0,.int .i64 0] 33)).alloc (by simp;omega) (.cells #[.int .i64 0,.int .i64 0] 33));have H0:=Yy (And.intro r1 r2);have HRV:=Yy (fun i (hi:i<xs.length)=>RsAt.rv h hi);obtain⟨hc1,hc2,hc3,hcell,_⟩:=h;dsimp only at hc1 hc2 hc3 hcell HRV;simp only[maxLen]at hc2;have HC:=Yy hcell;have hz:=zeroX;have HMX:=Yy max_any;unfold st at HMX;generalize hlen:xs.length=len at *;have HLN:=Yy hlen;clear hcell s0 r1 r2 hlen;unfold blast Bk.rs st;dsimp only;generalize hV:(xs.map (·.R)).foldl lastR (0,0)=V;have HV:=Yy hV;clear hV;go_enter Tryz.func65,Tryz.ntmps65;go_wp2;clear c00;go_loopw [11] (fun i wr=>∃ (k:Nat) (s:Int×Int),k≤len∧i=.int .i64 k∧StAt wr (w.heap.size+1) 0 0∧StAt wr (w.heap.size+1+1) s.1 s.2∧Below w.heap.size w wr∧s=((xs.take k).map (·.R)).foldl lastR (0,0)) (fun i _=>len - (intOf i).toNat)
 case atStart=>exact⟨0,(0,0),Nat.zero_le _,rfl,H0.out.1,H0.out.2,HB.out,rfl⟩
 case round=>
  obtain⟨k,s,hk,rfl,hr,hs,hb,hf⟩:=hrel;by_cases hlt:k<len
  ·obtain⟨b0,off,rfl,hbB,hcc⟩:=HC.out (by omega);have hx:=(hcc k hlt).same (hb.block b0 hbB);have IX:=ix_rec b0 off len c k hlt k rfl;have hvx:=HRV.out k hlt;have hsn:=last_snoc (xs:=xs) (k:=k) (by rw[HLN.out];exact hlt);rw[← hf]at hsn;generalize xs.getD k rcA0=x at *;generalize off+k*19=ox at *;have LX:=Yy hx.load;have HVX:=Yy hvx;have ZX:=Yy hvx.len;have HSN:=Yy hsn;have HBB:=Yy (And.intro hr (And.intro hs hb));clear hcc hx hvx hsn hr hs hb hf;go_wp2_with (first | ((with_reducible refine YyL 36 (.tmp 13) ⟨b0,ox,none⟩ LX.out ?_ ?_ ?_);rfl;rfl) | ((with_reducible refine wpList_store_newx (o:=⟨none,.store 36 (.tmp 5) (.tmp 14),_,_,_,_⟩) (w:=wr) ?_ (.tmp 5) (.tmp 14) ?_ wr.heap.size ?_ ?_ x ?_ ZX.out ?_);rfl;rfl;rfl;rfl;rfl;intro w2 hb2 hx2 hs2;have X2:=Yy hx2;have R2:=Yy (HBB.out.1.below hb2 HBB.out.1.lt);have S2:=Yy (HBB.out.2.1.below hb2 HBB.out.2.1.lt);have B2:=Yy (HBB.out.2.2.trans (hb2.mono HBB.out.2.2.size));have d16:=X2.out.c16;have d17:=X2.out.c17;have e0:=S2.out.c0;have e1:=S2.out.c1;clear hx2 hb2 hs2));refine (HMX.out s (x.R.n,x.R.r) _).mono ?_;rintro e w3 ⟨rfl,hb3⟩;have X3:=X2.out.below hb3 X2.out.lt;have S3:=S2.out.below hb3 S2.out.lt;have R3:=Yy (R2.out.below hb3 R2.out.lt);have f0:=S3.fz 0;have f1:=S3.fz 1;have e0:=S3.c0;have e1:=S3.c1;have B3:=B2.out.trans (hb3.mono B2.out.size);have S4:=Yy (S3.put (mx s (x.R.n,x.R.r)).1 (mx s (x.R.n,x.R.r)).2)
   have B4:=Yy (below_put B3 (show w.heap.size≤w.heap.size+1+1 by omega) (.int .i64 (mx s (x.R.n,x.R.r)).1) (.int .i64 (mx s (x.R.n,x.R.r)).2));have R4:Hid (StAt (((w3.setCell ⟨w.heap.size+1+1,0,none⟩ (.int .i64 (mx s (x.R.n,x.R.r)).1))).setCell ⟨w.heap.size+1+1,1,none⟩ (.int .i64 (mx s (x.R.n,x.R.r)).2)) (w.heap.size+1) 0 0):=Yy (by
    unfold StAt;rw[Below.heap_setCell _ _ _ _ (show w.heap.size+1≠w.heap.size+1+1 by omega),Below.heap_setCell _ _ _ _ (show w.heap.size+1≠w.heap.size+1+1 by omega)];exact R3.out)
   have X4:XAt (((w3.setCell ⟨w.heap.size+1+1,0,none⟩ (.int .i64 (mx s (x.R.n,x.R.r)).1))).setCell ⟨w.heap.size+1+1,1,none⟩ (.int .i64 (mx s (x.R.n,x.R.r)).2)) wr.heap.size x:=X3.same (by
    have:=HBB.out.2.1.lt;rw[Below.heap_setCell _ _ _ _ (show wr.heap.size≠w.heap.size+1+1 by omega),Below.heap_setCell _ _ _ _ (show wr.heap.size≠w.heap.size+1+1 by omega)])
   have x18:=X4.c18;have HS0:Hid (lastR s x.R=lastF (mx s (x.R.n,x.R.r)) x.R.fs):=Yy rfl;have HFS:=Yy HVX.out.2;generalize mx s (x.R.n,x.R.r)=s0 at *;generalize hfl:x.R.fs.length=fl at *;have HFL:=Yy hfl;clear hb3 X3 S3 B3 X4 hfl d16 d17;go_wp2;clear x18 e0 e1 f0 f1;generalize hw4:((w3.setCell ⟨w.heap.size+1+1,0,none⟩ (.int .i64 s0.1))).setCell ⟨w.heap.size+1+1,1,none⟩ (.int .i64 s0.2)=w4 at *;go_loopw [22] (fun i wi=>∃ (j:Nat) (t:Int×Int),j≤fl∧i=.int .i64 j∧StAt wi (w.heap.size+1) 0 0∧StAt wi (w.heap.size+1+1) t.1 t.2∧Below w.heap.size w wi∧t=lastF s0 (x.R.fs.take j)) (fun i _=>fl - (intOf i).toNat)
   case atStart=>exact⟨0,s0,Nat.zero_le _,rfl,R4.out,S4.out,B4.out,rfl⟩
   case round=>
    obtain⟨j,t,hj,rfl,hr,hs,hb,hf⟩:=hrel;by_cases hlt2:j<fl
    ·obtain⟨hq1,hq2,hq3,hq4⟩:=HFS.out;obtain⟨b1,off1,hA1,hb1,hcc⟩:=hq4 (by rw[HFL.out];omega);simp only[maxLen]at hq2;have hflc:fl≤x.c:=by have:=HFL.out;omega
     rw[hA1];obtain⟨c0,c1,c2,c3⟩:=hcc j (by rw[HFL.out];exact hlt2);have c0:=(hb.cell (p:=⟨b1,off1+j*4,none⟩) hb1).trans c0;have c1:=(hb.cell (p:=⟨b1,off1+j*4+1,none⟩) hb1).trans c1;have c2:=(hb.cell (p:=⟨b1,off1+j*4+2,none⟩) hb1).trans c2;have c3:=(hb.cell (p:=⟨b1,off1+j*4+3,none⟩) hb1).trans c3;have IXF:=ix_fld b1 off1 fl x.c j hlt2 j rfl;have hsn:=lastF_snoc (s:=s0) (fs:=x.R.fs) (k:=j) (by rw[HFL.out];exact hlt2);rw[← hf]at hsn;generalize x.R.fs.getD j fld0=f at *;generalize off1+j*4=o1 at *;have HSN2:=Yy hsn;have SA:=hs.old (.cells #[.int .i64 f.no,.int .i64 f.c.n,.int .i64 f.c.r,.string f.c.s] 59);have RA:=hr.old (.cells #[.int .i64 f.no,.int .i64 f.c.n,.int .i64 f.c.r,.string f.c.s] 59);have BA:=hb.alloc hb.size (.cells #[.int .i64 f.no,.int .i64 f.c.n,.int .i64 f.c.r,.string f.c.s] 59);have e0:=SA.c0;have e1:=SA.c1;have HSA:=Yy (And.intro SA (And.intro RA BA));have HA1:=Yy hA1;clear hcc hq4 hsn hr hs hb hf SA RA BA hA1;go_wp2_with fail;refine (HMX.out t (f.c.n,f.c.r) _).mono ?_;rintro e w5 ⟨rfl,hb5⟩;have S5:=HSA.out.1.below hb5 HSA.out.1.lt;have f0:=S5.fz 0;have f1:=S5.fz 1;have e0:=S5.c0;have e1:=S5.c1;have R5:=HSA.out.2.1.below hb5 HSA.out.2.1.lt;have B5:=HSA.out.2.2.trans (hb5.mono HSA.out.2.2.size);have S6:=Yy (S5.put (mx t (f.c.n,f.c.r)).1 (mx t (f.c.n,f.c.r)).2);have B6:=Yy (below_put B5 (show w.heap.size≤w.heap.size+1+1 by omega) (.int .i64 (mx t (f.c.n,f.c.r)).1) (.int .i64 (mx t (f.c.n,f.c.r)).2))
     have R6:Hid (StAt (((w5.setCell ⟨w.heap.size+1+1,0,none⟩ (.int .i64 (mx t (f.c.n,f.c.r)).1))).setCell ⟨w.heap.size+1+1,1,none⟩ (.int .i64 (mx t (f.c.n,f.c.r)).2)) (w.heap.size+1) 0 0):=Yy (by
      unfold StAt;rw[Below.heap_setCell _ _ _ _ (show w.heap.size+1≠w.heap.size+1+1 by omega),Below.heap_setCell _ _ _ _ (show w.heap.size+1≠w.heap.size+1+1 by omega)];exact R5)
     generalize mx t (f.c.n,f.c.r)=t2 at *;clear hb5 S5 R5 B5 c0 c1 c2 c3;go_wp2;go_roundw
     case rel=>exact⟨j+1,t2,by omega,by go_num,R6.out,S6.out,B6.out,HSN2.out.symm⟩
     case measure=>simp[intOf];omega
    ·obtain rfl:j=fl:=by omega
     rw[List.take_of_length_le (by rw[HFL.out];exact Nat.le_refl _),← HS0.out,← HSN.out]at hf;have HF2:=Yy hf;have HRR:=Yy (And.intro hr (And.intro hs hb));clear hr hs hb hf;go_wp2;go_roundw
     case rel=>exact⟨k+1,t,by omega,by go_num,HRR.out.1,HRR.out.2.1,HRR.out.2.2,HF2.out⟩
     case measure=>simp[intOf];omega
  ·obtain rfl:k=len:=by omega
   rw[List.take_of_length_le (by rw[HLN.out];exact Nat.le_refl _),HV.out]at hf;subst hf;have e0:=hs.c0;have e1:=hs.c1;have f0:=hr.fz 0;have f1:=hr.fz 1;have g0:=hr.c0;have g1:=hr.c1;have HP:=Yy (hr.put s.1 s.2);have HQ:=Yy (below_put hb (show w.heap.size≤w.heap.size+1 by omega) (.int .i64 s.1) (.int .i64 s.2));clear hs hr hb;go_wp2;refine bodyPost_ret (v:=st s.1 s.2) ?_ rfl ⟨rfl,HQ.out⟩;exact res_st Tryz.results65 rfl HP.out
end
section
open Go.RowKit WM
theorem bmayRep_any (r:Int) (w:World):Calls Tryz.prog 63 #[.int .i64 r] w fun e w'=>e=.returned (.bool (mayR r))∧Below w.heap.size w w':=by
 have HB:=Yy (Below.refl w.heap.size w);by_cases h0:0≤r
 ·go_enter Tryz.func63,Tryz.ntmps63;go_wp2;go_ret;exact⟨by simp[mayR,h0],HB.out⟩
 ·go_enter Tryz.func63,Tryz.ntmps63;go_wp2;go_ret;exact⟨by rw[mayR,decide_eq_false (by omega)];rfl,HB.out⟩
theorem one_at {w:World} {x:RcA} (h:RvAt w x):BkAt (w.alloc (.cells x.cells 36)) ⟨[x],some ⟨w.heap.size,0,none⟩,1⟩:=by
 refine⟨Nat.le_refl _,(show 1≤maxLen by decide),(fun e=>by cases e),fun _=>⟨w.heap.size,0,rfl,by rw[World.size_alloc];omega,fun i hi=>?_⟩,fun y hy=>?_⟩
 ·obtain rfl:i=0:=by simpa using hi
  exact (XAt.new w h.len).rec
 ·rw[List.mem_singleton.1 hy];exact h.below ((Below.refl w.heap.size w).alloc Nl _) Nl
theorem with_any (b:Bk) (x:RcA) (w:World) (hlaid:Laid w) (h1:BkAt w b) (h2:RvAt w x):
  Calls Tryz.prog 66 #[.agg #[.slice b.A b.xs.length b.c],.agg x.cells] w (BJoinPost w (bjE b.rs [x.R])):=by
 have s0:=((BoAt.new w (.slice b.A b.xs.length b.c)).old (.cells x.cells 36)).old (.cells #[.slice none 0 0] 24);have x1:=(XAt.new (x:=x) (w.alloc (.cells #[.slice b.A b.xs.length b.c] 24)) h2.len).old (.cells #[.slice none 0 0] 24);rw[World.size_alloc]at x1;have s2:=BoAt.new ((w.alloc (.cells #[.slice b.A b.xs.length b.c] 24)).alloc (.cells x.cells 36)) (.slice none 0 0);rw[World.size_alloc,World.size_alloc]at s2;have S2:=Yy s2;have HB:=Yy ((((Below.refl w.heap.size w).alloc Nl (.cells #[.slice b.A b.xs.length b.c] 24)).alloc (by simp) (.cells x.cells 36)).alloc (by simp;omega) (.cells #[.slice none 0 0] 24));have L6:=Yy s0.load;have L7:=Yy x1.load;have ZX:=Yy h2.len;have hz:∀ w:World,(zeroValue 24).run Tryz.prog w=.ok (.agg #[.slice none 0 0]) w:=zeroBook;have hb1:=build_book;have hv:=h2.below HB.out Nl;have BA:=(Below.refl ((((w.alloc (.cells #[.slice b.A b.xs.length b.c] 24)).alloc (.cells x.cells 36)).alloc (.cells #[.slice none 0 0] 24))).heap.size _).alloc Nl (.cells x.cells 36);have HBA:=Yy (HB.out.trans (BA.mono HB.out.size));have HO:=one_at hv;have HJ:=Yy (bjoin_any b ⟨[x],_,1⟩ _ (hlaid.below HBA.out Nl) (h1.below HBA.out Nl) HO);have S3:=Yy (S2.out.below BA S2.out.lt);unfold BJoinPost at HJ;unfold BJoinPost;have HE:Hid (bjE b.rs (Bk.rs ⟨[x],some ⟨w.heap.size+1+1+1,0,none⟩,1⟩)=bjE b.rs [x.R]):=Yy rfl;simp only[World.size_alloc]at HJ;dsimp only[List.length_cons,List.length_nil]at HJ;rw[HE.out]at HJ;generalize bjE b.rs [x.R]=r at HJ ⊢
 clear s0 x1 s2 h1 h2 hlaid hv BA HO;go_enter Tryz.func66,Tryz.ntmps66;go_wp2_with (first | ((with_reducible refine YyL 24 (.tmp 2) ⟨w.heap.size,0,none⟩ L6.out ?_ ?_ ?_);rfl;rfl) | ((with_reducible refine YyL 36 (.tmp 3) ⟨(w.heap.size+1),0,none⟩ L7.out ?_ ?_ ?_);rfl;rfl) | ((with_reducible refine wpList_bslice (o:=⟨some 8,.buildSlice 22 1 #[(0,.tmp 7)],_,_,_,_⟩) ?_ (.tmp 7) ?_ x ?_ ZX.out ?_);rfl;rfl;rfl));refine HJ.out.mono ?_;rintro e w1 ⟨d,rfl,hd,hk,hb⟩;have S4:=Yy (S3.out.below hb (by have:=S3.out.lt;simp only[World.size_alloc]at this;exact this));have B1:=Yy (HBA.out.trans (hb.mono (by have:=HBA.out.size;simp only[World.size_alloc]at this;exact this)));have HD:=Yy hd;have HK:=Yy hk;clear hb hd hk;go_wp2_with (first | ((with_reducible refine wpList_store_oldb (o:=⟨none,.store 24 (.tmp 4) (.tmp 11),_,_,_,_⟩) ?_ (.tmp 4) (.tmp 11) ?_ (w.heap.size+1+1) _ S4.out ?_ (.slice d.A d.xs.length d.c) ?_ ?_ ?_);rfl;rfl;rfl;rfl;rfl;intro w2 hg2 hx2;have G9:=Yy hg2;have X9:=Yy hx2;clear hg2 hx2));refine bodyPost_ret (v:=.tuple #[.agg #[.slice d.A d.xs.length d.c],.int .i64 r.1]) ?_ rfl ?_
 ·exact res_bk2 Tryz.results66 rfl X9.out
 ·exact⟨d,rfl,HD.out,HK.out.kept_bo G9.out S4.out,B1.out.grown G9.out B1.out.size (fun k e=>by have:=Option.some.inj e;omega)⟩
theorem wpList_build_by {w:World} {ops:Array Oper} {rest:List Oper} {o:Oper} {a:Act} {Q:Exit→Act→World→Prop} (hgd:o.guard=none) (t:TypeId) (parts:Array (Nat×Operand)) (hop:o.op=.build t parts) (ps:Array (Nat×Value)) (hp:parts.map (fun x=>(x.1,a.eval x.2))=ps)
  (v:Value) (hv:(Instr.build t ps).run Tryz.prog w=.ok v w) (hK:wpList Tryz.prog ops Q rest (a.put o.dst v) w):wpList Tryz.prog ops Q (o::rest) a w:=by
 refine wpList_plain hgd fun K' hK'=>?_;unfold Oper.wp execOp;have e:parts.map (fun x=>match x with | (i,x)=>(i,a.eval x))=ps:=hp;simp only[hop];rw[e];simp only[Sem.run_bind,hv,Result.andThen_ok,Sem.run_pure];exact hK' _ _ hK
def bnext (rs:List Rc) (q:Int):Int×Int×Int:=nxt (blast rs).1 (blast rs).2 q
def bwok (rs:List Rc) (no q:Int) (s:ByteArray):Bool:=bmay rs && decide (0≤no) && decide (no<8) && mayR q && decide (s.size≤200)
def wrec (z:List Int) (no:Int) (t:Int×Int×Int) (s:ByteArray):Rc:=⟨z,0,0,[⟨no,⟨t.1,t.2.1,s⟩⟩]⟩
def bwrite (rs:List Rc) (z:List Int) (no q:Int) (s:ByteArray):Int×List Rc:=
 if bwok rs no q s=true then (if (bnext rs q).2.2=0 then bjE rs [wrec z no (bnext rs q) s] else ((bnext rs q).2.2,[])) else (1,[])
theorem built_zf {z:List Int} (h:z.length=16) (A:Option Addr) (l c:Nat):Tryz.prog.built 36 [(0,.agg (bvals z)),(2,.slice A l c)]=some (rcells z 0 0 (.slice A l c)):=by
 obtain⟨a,b,c',d,e,f,g,i,j,k,l',m,n',o,p,q,rfl⟩:=list16 h
 kernel_rfl
theorem build_zf {z:List Int} (h:z.length=16) (A:Option Addr) (l c:Nat) (w:World):(Instr.build 36 #[(0,.agg (bvals z)),(2,.slice A l c)]).run Tryz.prog w=.ok (.agg (rcells z 0 0 (.slice A l c))) w:=run_build w _ _ _ (built_zf h A l c)
theorem build_zd {z:List Int} (h:z.length=16) (n r:Int) (w:World):(Instr.build 36 #[(0,.agg (bvals z)),(1,.agg #[.int .i64 n,.int .i64 r])]).run Tryz.prog w=.ok (.agg (rcells z n r (.slice none 0 0))) w:=build_rec h n r w
theorem fs_one' (w:World) (f:Fld):FsAt (w.alloc (.cells #[.int .i64 f.no,.int .i64 f.c.n,.int .i64 f.c.r,.string f.c.s] 59)) (some ⟨w.heap.size,0,none⟩) 1 [f]:=by
 have hF:=FlAt.new w f;refine⟨Nat.le_refl _,by decide,fun h=>(by cases h),fun _=>⟨w.heap.size,0,rfl,hF.lt,fun i hi=>?_⟩⟩;obtain rfl:i=0:=by simpa using hi
 exact⟨hF.c0,hF.c1,hF.c2,hF.c3⟩
end
section
open Go.RowKit WM
theorem Tta16 {p:Prop} (h:p:=by
  clear hm;go_enter Tryz.func32,Tryz.ntmps32;go_wp2_with (first | ((with_reducible refine YyL 24 (.tmp 5) ⟨w.heap.size,0,none⟩ LA.out ?_ ?_ ?_);rfl;rfl));refine HM.out.mono ?_;rintro e w1 ⟨rfl,hb⟩;have S01:=Yy (S0.out.below hb S0.out.lt);have I11:=Yy (I1.out.below hb I1.out.lt);have S21:=Yy (S2.out.below hb S2.out.lt);have B1:=Yy (HB.out.trans (hb.mono HB.out.size));clear hb;go_wp2_with (first | ((with_reducible refine wpList_store_oldb (o:=⟨none,.store 24 (.tmp 10) (.tmp 36),_,_,_,_⟩) ?_ (.tmp 10) (.tmp 36) ?_ (w.heap.size+1+1) _ S21.out ?_ (.slice none 0 0) ?_ ?_ ?_);rfl;rfl;rfl;rfl;rfl;intro w2 hg2 hx2;have G9:=Yy hg2;have X9:=Yy hx2;clear hg2 hx2));refine bodyPost_ret (v:=.tuple #[.agg #[.slice none 0 0],.int .i64 1]) ?_ rfl ?_
  ·exact res_bk2 Tryz.results32 rfl X9.out
  ·rw[HE.out];exact⟨bk0,rfl,rfl,BkAt.zero _,B1.out.grown G9.out B1.out.size (fun k e=>by have:=Option.some.inj e;omega)⟩
 ):p:=h
theorem Tta13 {p:Prop} (h:p:=by
  clear hm hq;go_enter Tryz.func32,Tryz.ntmps32;go_wp2_with (first | ((with_reducible refine YyL 24 (.tmp 5) ⟨w.heap.size,0,none⟩ LA.out ?_ ?_ ?_);rfl;rfl));refine HM.out.mono ?_;rintro e w1 ⟨rfl,hb⟩;have S01:=Yy (S0.out.below hb S0.out.lt);have I11:=Yy (I1.out.below hb I1.out.lt);have S21:=Yy (S2.out.below hb S2.out.lt);have B1:=Yy (HB.out.trans (hb.mono HB.out.size));clear hb;go_wp2_with fail;refine (HR.out _).mono ?_;rintro e w2 ⟨rfl,hb⟩;have S02:=Yy (S01.out.below hb S01.out.lt);have I12:=Yy (I11.out.below hb I11.out.lt);have S22:=Yy (S21.out.below hb S21.out.lt);have B2:=Yy (B1.out.trans (hb.mono B1.out.size));clear hb;go_wp2_with (first | ((with_reducible refine wpList_store_oldb (o:=⟨none,.store 24 (.tmp 10) (.tmp 36),_,_,_,_⟩) ?_ (.tmp 10) (.tmp 36) ?_ (w.heap.size+1+1) _ S22.out ?_ (.slice none 0 0) ?_ ?_ ?_);rfl;rfl;rfl;rfl;rfl;intro w2 hg2 hx2;have G9:=Yy hg2;have X9:=Yy hx2;clear hg2 hx2));refine bodyPost_ret (v:=.tuple #[.agg #[.slice none 0 0],.int .i64 1]) ?_ rfl ?_
  ·exact res_bk2 Tryz.results32 rfl X9.out
  ·exact Ttc2
 ):p:=h
theorem bwrite_any (b:Bk) (z:List Int) (no q:Int) (s:ByteArray) (w:World) (hlaid:Laid w) (h1:BkAt w b) (hz16:z.length=16) (hzb:AllBytes z):
  Calls Tryz.prog 32 #[.agg #[.slice b.A b.xs.length b.c],.agg (bvals z),.int .i64 no,.int .i64 q,.string s] w (BJoinPost w (bwrite b.rs z no q s)):=by
 have s0:=((BoAt.new w (.slice b.A b.xs.length b.c)).old (.cells (bvals z) 31)).old (.cells #[.slice none 0 0] 24);have i1:=(IdAt.new (w.alloc (.cells #[.slice b.A b.xs.length b.c] 24)) hz16).old (.cells #[.slice none 0 0] 24);rw[World.size_alloc]at i1;have s2:=BoAt.new ((w.alloc (.cells #[.slice b.A b.xs.length b.c] 24)).alloc (.cells (bvals z) 31)) (.slice none 0 0);rw[World.size_alloc,World.size_alloc]at s2;have S0:=Yy s0;have I1:=Yy i1;have S2:=Yy s2;have HB:=Yy ((((Below.refl w.heap.size w).alloc Nl (.cells #[.slice b.A b.xs.length b.c] 24)).alloc (by simp) (.cells (bvals z) 31)).alloc (by simp;omega) (.cells #[.slice none 0 0] 24));have LA:=Yy S0.out.load;have HM:=Yy (bmay_any b _ (h1.below HB.out Nl));have H1:=Yy h1;have HZ:=Yy (And.intro hz16 hzb);have hz:∀ w:World,(zeroValue 24).run Tryz.prog w=.ok (.agg #[.slice none 0 0]) w:=zeroBook;have hb0:=build_book0;have HLA:=Yy (fun (X:World) (hX:Below w.heap.size w X)=>hlaid.below hX Nl);have HR:=Yy (fun w=>bmayRep_any q w);have HN:=Yy (fun w=>next_any (blast b.rs).1 (blast b.rs).2 q w);have HTT:Hid (nxt (blast b.rs).1 (blast b.rs).2 q=bnext b.rs q):=Yy rfl;rw[HTT.out]at HN;unfold st nxtV st at HN;clear s0 i1 s2 h1 hlaid hz16 hzb;cases hm:bmay b.rs
 ·have HE:=Yy (show bwrite b.rs z no q s=(1,[]) by unfold bwrite bwok;rw[hm];rfl);rw[hm]at HM;exact Tta16
 ·rw[hm]at HM;by_cases t1:no<0
  ·have HE:=Yy (show bwrite b.rs z no q s=(1,[]) by unfold bwrite bwok;rw[hm,decide_eq_false (show ¬ 0≤no by omega)];rfl);exact Tta16
  ·by_cases t2:8≤no
   ·have HE:=Yy (show bwrite b.rs z no q s=(1,[]) by unfold bwrite bwok;rw[hm,decide_eq_false (show ¬ no<8 by omega),Bool.and_false];rfl);exact Tta16
   ·cases hq:mayR q
    ·have HE:=Yy (show bwrite b.rs z no q s=(1,[]) by unfold bwrite bwok;rw[hq,Bool.and_false];rfl);rw[hq]at HR;exact Tta13
    ·rw[hq]at HR;by_cases t3:200<(s.size:Int)
     ·have HE:=Yy (show bwrite b.rs z no q s=(1,[]) by unfold bwrite bwok;rw[decide_eq_false (show ¬ s.size≤200 by omega),Bool.and_false];rfl);exact Tta13
     ·have HOK:bwok b.rs no q s=true:=by unfold bwok;rw[hm,hq,decide_eq_true (show 0≤no by omega),decide_eq_true (show no<8 by omega),decide_eq_true (show s.size≤200 by omega)];rfl
      have HEE:bwrite b.rs z no q s=if (bnext b.rs q).2.2=0 then bjE b.rs [wrec z no (bnext b.rs q) s] else ((bnext b.rs q).2.2,[]):=by unfold bwrite;rw[HOK,if_pos rfl]
      clear hm hq HOK HTT;generalize bnext b.rs q=t at *;by_cases t4:t.2.2=0
      ·rw[if_pos t4]at HEE;have HE:=Yy HEE;obtain⟨r,hr⟩:∃ r,bjE b.rs [wrec z no t s]=r:=⟨_,rfl⟩;have HRR:Hid (bjE b.rs [(⟨wrec z no t s,some ⟨0,0,none⟩,1⟩:RcA).R]=r):=Yy hr;rw[hr]at HE;clear HEE hr;go_enter Tryz.func32,Tryz.ntmps32;go_wp2_with (first | ((with_reducible refine YyL 24 (.tmp 5) ⟨w.heap.size,0,none⟩ LA.out ?_ ?_ ?_);rfl;rfl));refine HM.out.mono ?_;rintro e w1 ⟨rfl,hb⟩;have S01:=Yy (S0.out.below hb S0.out.lt);have I11:=Yy (I1.out.below hb I1.out.lt);have S21:=Yy (S2.out.below hb S2.out.lt);have B1:=Yy (HB.out.trans (hb.mono HB.out.size));clear hb;go_wp2_with fail;refine (HR.out _).mono ?_;rintro e w2 ⟨rfl,hb⟩;have S02:=Yy (S01.out.below hb S01.out.lt);have I12:=Yy (I11.out.below hb I11.out.lt);have S22:=Yy (S21.out.below hb S21.out.lt);have B2:=Yy (B1.out.trans (hb.mono B1.out.size));clear hb;have LB:=Yy S02.out.load;have HL:=Yy (blast_any b w2 (H1.out.below B2.out Nl));unfold st at HL;go_wp2_with (first | ((with_reducible refine YyL 24 (.tmp 5) ⟨w.heap.size,0,none⟩ LB.out ?_ ?_ ?_);rfl;rfl));refine HL.out.mono ?_;rintro e w3 ⟨rfl,hb⟩;have S03:=Yy (S02.out.below hb S02.out.lt);have I13:=Yy (I12.out.below hb I12.out.lt);have S23:=Yy (S22.out.below hb S22.out.lt);have B3:=Yy (B2.out.trans (hb.mono B2.out.size));clear hb;go_wp2_with fail;refine (HN.out _).mono ?_;rintro e w4 ⟨rfl,hb⟩;have S04:=Yy (S03.out.below hb S03.out.lt);have I14:=Yy (I13.out.below hb I13.out.lt);have S24:=Yy (S23.out.below hb S23.out.lt);have B4:=Yy (B3.out.trans (hb.mono B3.out.size));clear hb
       have BS:=(Below.refl w4.heap.size w4).alloc Nl (.cells #[.int .i64 t.1,.int .i64 t.2.1] 33);have BC:=BS.trans (((Below.refl _ _).alloc Nl (.cells #[.int .i64 t.1,.int .i64 t.2.1,.string s] 38)).mono BS.size);have BF:=BC.trans (((Below.refl _ _).alloc Nl (.cells #[.int .i64 no,.int .i64 t.1,.int .i64 t.2.1,.string s] 59)).mono BC.size);have L51:=Yy (S04.out.below BC S04.out.lt).load;have L52:=Yy (load_arr16 (I14.out.below BC I14.out.lt));have hbz:=build_zf HZ.out.1;have HFS:=fs_one' ((w4.alloc (.cells #[.int .i64 t.1,.int .i64 t.2.1] 33)).alloc (.cells #[.int .i64 t.1,.int .i64 t.2.1,.string s] 38)) ⟨no,⟨t.1,t.2.1,s⟩⟩;simp only[World.size_alloc]at HFS;have S25:=Yy (S24.out.below BF S24.out.lt);have B5:=Yy (B4.out.trans (BF.mono B4.out.size));clear BF;have HXV:RvAt (((w4.alloc (.cells #[.int .i64 t.1,.int .i64 t.2.1] 33)).alloc (.cells #[.int .i64 t.1,.int .i64 t.2.1,.string s] 38)).alloc (.cells #[.int .i64 no,.int .i64 t.1,.int .i64 t.2.1,.string s] 59)) ⟨wrec z no t s,some ⟨w4.heap.size+1+1,0,none⟩,1⟩:=⟨⟨HZ.out.1,HZ.out.2⟩,HFS⟩;have HW:=with_any b ⟨wrec z no t s,some ⟨w4.heap.size+1+1,0,none⟩,1⟩ _ (HLA.out _ B5.out) (H1.out.below B5.out Nl) HXV;unfold BJoinPost at HW;rw[HRR.out]at HW;have HW2:=Yy (show Calls Tryz.prog 66 #[.agg #[.slice b.A b.xs.length b.c],.agg (rcells z 0 0 (.slice (some ⟨w4.heap.size+1+1,0,none⟩) 1 1))] _ _ from HW);clear HFS BC HXV HW BS
       go_wp2_with (first | ((with_reducible refine YyL 24 (.tmp 5) ⟨w.heap.size,0,none⟩ L51.out ?_ ?_ ?_);rfl;rfl) | ((with_reducible refine YyL 31 (.tmp 6) ⟨(w.heap.size+1),0,none⟩ L52.out ?_ ?_ ?_);rfl;rfl) | ((with_reducible refine wpList_build_by (o:=⟨some 57,.build 36 #[(0,.tmp 52),(2,.tmp 56)],_,_,_,_⟩) ?_ 36 #[(0,.tmp 52),(2,.tmp 56)] ?_ #[(0,.agg (bvals z)),(2,.slice (some ⟨w4.heap.size+1+1,0,none⟩) 1 1)] ?_ _ (hbz _ _ _ _) ?_);rfl;rfl;(simp only[List.map_toArray,List.map_cons,List.map_nil];rfl)));refine HW2.out.mono ?_;rintro e w6 ⟨d,rfl,hd,hk,hb⟩;have HD:=Yy hd;have HK:=Yy hk;clear hd hk;have S26:=Yy (S25.out.below hb S25.out.lt);have B6:=Yy (B5.out.trans (hb.mono B5.out.size));clear hb;go_wp2_with (first | ((with_reducible refine wpList_store_oldb (o:=⟨none,.store 24 (.tmp 10) (.tmp 59),_,_,_,_⟩) ?_ (.tmp 10) (.tmp 59) ?_ (w.heap.size+1+1) _ S26.out ?_ (.slice d.A d.xs.length d.c) ?_ ?_ ?_);rfl;rfl;rfl;rfl;rfl;intro w2 hg2 hx2;have G9:=Yy hg2;have X9:=Yy hx2;clear hg2 hx2));refine bodyPost_ret (v:=.tuple #[.agg #[.slice d.A d.xs.length d.c],.int .i64 r.1]) ?_ rfl ?_
       ·exact res_bk2 Tryz.results32 rfl X9.out
       ·rw[HE.out];exact⟨d,rfl,HD.out,HK.out.kept_bo G9.out S26.out,B6.out.grown G9.out B6.out.size (fun k e=>by have:=Option.some.inj e;omega)⟩
      ·rw[if_neg t4]at HEE;have HE:=Yy HEE;clear HEE;go_enter Tryz.func32,Tryz.ntmps32;go_wp2_with (first | ((with_reducible refine YyL 24 (.tmp 5) ⟨w.heap.size,0,none⟩ LA.out ?_ ?_ ?_);rfl;rfl));refine HM.out.mono ?_;rintro e w1 ⟨rfl,hb⟩;have S01:=Yy (S0.out.below hb S0.out.lt);have S21:=Yy (S2.out.below hb S2.out.lt);have B1:=Yy (HB.out.trans (hb.mono HB.out.size));clear hb;go_wp2_with fail;refine (HR.out _).mono ?_;rintro e w2 ⟨rfl,hb⟩;have S02:=Yy (S01.out.below hb S01.out.lt);have S22:=Yy (S21.out.below hb S21.out.lt);have B2:=Yy (B1.out.trans (hb.mono B1.out.size));clear hb;have LB:=Yy S02.out.load;have HL:=Yy (blast_any b w2 (H1.out.below B2.out Nl));unfold st at HL;go_wp2_with (first | ((with_reducible refine YyL 24 (.tmp 5) ⟨w.heap.size,0,none⟩ LB.out ?_ ?_ ?_);rfl;rfl));refine HL.out.mono ?_;rintro e w3 ⟨rfl,hb⟩;have S23:=Yy (S22.out.below hb S22.out.lt);have B3:=Yy (B2.out.trans (hb.mono B2.out.size));clear hb;go_wp2_with fail;refine (HN.out _).mono ?_;rintro e w4 ⟨rfl,hb⟩;have S24:=Yy (S23.out.below hb S23.out.lt);have B4:=Yy (B3.out.trans (hb.mono B3.out.size));clear hb;have BS:=(Below.refl w4.heap.size w4).alloc Nl (.cells #[.int .i64 t.1,.int .i64 t.2.1] 33);have S25:=Yy (S24.out.below BS S24.out.lt);have B5:=Yy (B4.out.trans (BS.mono B4.out.size));clear BS
       go_wp2_with (first | ((with_reducible refine wpList_store_oldb (o:=⟨none,.store 24 (.tmp 10) (.tmp 46),_,_,_,_⟩) ?_ (.tmp 10) (.tmp 46) ?_ (w.heap.size+1+1) _ S25.out ?_ (.slice none 0 0) ?_ ?_ ?_);rfl;rfl;rfl;rfl;rfl;intro w2 hg2 hx2;have G9:=Yy hg2;have X9:=Yy hx2;clear hg2 hx2));refine bodyPost_ret (v:=.tuple #[.agg #[.slice none 0 0],.int .i64 t.2.2]) ?_ rfl ?_
       ·exact res_bk2 Tryz.results32 rfl X9.out
       ·rw[HE.out];exact⟨bk0,rfl,rfl,BkAt.zero _,B5.out.grown G9.out B5.out.size (fun k e=>by have:=Option.some.inj e;omega)⟩
end
section
open Go.RowKit WM
end
end
section
open WM
theorem bmay_one {r:Rc} (h:r.may=true):bmay [r]=true:=bmay_iff.2 ⟨by simp,fun x hx=>by rw[List.mem_singleton.1 hx];exact h,List.pairwise_singleton _ _⟩
end
section
open Go.RowKit WM
def aliv (P:Rc):Rc:=⟨P.z,0,0,P.fs⟩
def adead (P:Rc):Rc:=⟨P.z,P.n,P.r,[]⟩
def addX (Y:List Rc) (P:Rc):Int×List Rc:=if P.n=0∧P.r=0 then (0,Y) else bjE Y [adead P]
def addY (x:Int×List Rc) (P:Rc):Int×List Rc:=if x.1=0∧P.fs≠[] then bjE x.2 [aliv P] else x
def addOk (Y:List Rc) (P:Rc):Prop:=bmay Y=true∧may P.n P.r=true∧¬ (P.n=0∧P.r=0∧P.fs=[])∧(P.fs=[]∨(aliv P).may=true)
open Classical in
noncomputable def addE (Y:List Rc) (P:Rc):Int×List Rc:=
 if addOk Y P then (if (addY (addX Y P) P).1=0 then addY (addX Y P) P else ((addY (addX Y P) P).1,[])) else (1,[])
theorem may_zeroA:may 0 0=true:=by decide
theorem may_okFrom {R:Rc} (h:R.may=true):okFrom R.n R.r 0 R.fs=true:=by
 have h':=h;unfold Rc.may rmay at h';simp only[Bool.and_eq_true]at h';exact h'.2
theorem adead_may {z:List Int} {n r:Int} (h:may n r=true) (hn:¬ (n=0∧r=0)):(⟨z,n,r,[]⟩:Rc).may=true:=by
 unfold Rc.may rmay;dsimp only;rw[h];by_cases h0:n=0
 ·rw[decide_eq_false (show ¬ r=0 from fun e=>hn ⟨h0,e⟩)];simp[okFrom]
 ·rw[decide_eq_false h0];simp[okFrom]
noncomputable def excO (o:Option Rc) (c:Cel) (k:Nat):Bool:=match o with
 | none=>stLess 0 0 c.n c.r
 | some x=>stLess x.n x.r c.n c.r && (match x.at k with
  | none=>true
  | some e=>if e.n=c.n∧e.r=c.r then lessL (SH.sum (nums e.s)) (SH.sum (nums c.s)) else stLess e.n e.r c.n c.r)
def odead (o:Option Rc):Int×Int:=match o with
 | none=>(0,0)
 | some x=>(x.n,x.r)
theorem ldead_mof (base:List Int) (Y:List Rc) (z:List Int):ldead (mof SH.sum base Y) z=odead (bat Y z):=by
 unfold ldead;rw[show (mof SH.sum base Y).ls=Y.map (mofL SH.sum) from rfl,lfind_mof];cases bat Y z<;>rfl
theorem exc_mof (base:List Int) (Y:List Rc) (z:List Int) (c:Cel) (k:Nat):exc c (mof SH.sum base Y) z (k:Int)=excO (bat Y z) c k:=by
 unfold exc;rw[ldead_mof,mfind_mof];cases bat Y z with
 | none=>simp[excO,odead]
 | some x=>
  unfold excO odead Rc.at rfind;simp only[Option.bind_some];cases x.fs.find? (fun f=>decide (f.no=(k:Int))) with
  | none=>rfl
  | some f=>rfl
theorem exc_yes {x:Rc} {c:Cel} {k:Nat} (h:excO (some x) c k=true):stLess x.n x.r c.n c.r=true∧∀ e,x.at k=some e→cless e c=true:=by
 unfold excO at h;dsimp only at h;rw[Bool.and_eq_true]at h;refine⟨h.1,fun e he=>?_⟩;have h2:=h.2;rw[he]at h2;dsimp only at h2;rw[cless_iff];unfold CL
 split at h2
 ·rename_i h1
  exact .inr ⟨h1,.inl h2⟩
 ·exact .inl (stLess_iff.1 h2)
section
variable {base:List Int} {Y:List Rc} {R:Rc}
theorem ppart_none (hR:R.may=true) (h:bat Y R.z=none):ppart (mof SH.sum base Y) R=R:=by
 have hd:=may_iff.1 (may_dead hR);have hf:pfs R (mof SH.sum base Y)=R.fs:=by
  unfold pfs;refine List.filter_eq_self.2 fun f hf=>?_;obtain⟨h1,h2,h3,_⟩:=okFrom_all _ _ _ _ (may_okFrom hR) (Int.le_refl 0) f hf;have h4:=exc_mof base Y R.z f.c f.no.toNat;rw[Int.toNat_of_nonneg h1,h]at h4;rw[h4];exact stLess_iff.2 (.inl (by have:=(cmay_iff.1 h3).2.1;omega))
 have hp:pless R (mof SH.sum base Y)=stLess 0 0 R.n R.r:=by unfold pless;rw[ldead_mof,h];rfl
 unfold ppart;rw[hf,hp];obtain⟨z,n,r,fs⟩:=R;dsimp only at hd ⊢;by_cases h0:n=0
 ·have h1:r=0:=by omega
  subst h0 h1;simp
 ·rw[stLess_iff.2 (.inl (by omega)),if_pos rfl,if_pos rfl]
theorem ppart_some {x:Rc} (h:bat Y R.z=some x):pless R (mof SH.sum base Y)=stLess x.n x.r R.n R.r:=by unfold pless;rw[ldead_mof,h];rfl
end
end
section
open Go.RowKit WM
theorem rfind_in {n r:Int}:∀ {fs:List Fld} {m:Int},okFrom n r m fs=true→∀ f∈fs,rfind fs f.no=some f.c
 | [],_,_,f,hf=>by cases hf
 | g::fs,m,h,f,hf=>by
  rw[okFrom]at h;simp only[Bool.and_eq_true,decide_eq_true_eq]at h;rw[rfind_cons];rcases List.mem_cons.1 hf with rfl | hf
  ·rw[if_pos rfl]
  ·have ih:=rfind_in h.2 f hf;have hne:¬ g.no=f.no:=fun e=>by
    have:=rfind_low h.2 (no:=g.no) (by omega);rw[e,ih]at this;cases this
   rw[if_neg hne];exact ih
theorem apart_no {base:List Int} {J:List Rc} {R x:Rc} (hx:x.may=true) (hR:R.may=true) (hb:bat J R.z=some x) (hj:jn x R=x):apart (mof SH.sum base J) R=none:=by
 have hd:mx x.d R.d=x.d:=congrArg Rc.d hj;have h1:pless R (mof SH.sum base J)=false:=by
  rw[ppart_some hb];cases h:stLess x.n x.r R.n R.r with
  | false=>rfl
  | true=>
   have h2:mx x.d R.d=R.d:=by unfold mx;rw[if_pos (show stLess x.d.1 x.d.2 R.d.1 R.d.2=true from h)]
   rw[hd]at h2;have h3:x.n=R.n:=congrArg Prod.fst h2;have h4:x.r=R.r:=congrArg Prod.snd h2;have:=stLess_iff.1 h;omega
 have h2:pfs R (mof SH.sum base J)=[]:=by
  unfold pfs;refine List.filter_eq_nil_iff.2 fun f hf he=>?_;obtain⟨a1,a2,a3,a4⟩:=okFrom_all _ _ _ _ (may_okFrom hR) (Int.le_refl 0) f hf;have hk:f.no.toNat<8:=by omega
  have hno:((f.no.toNat:Nat):Int)=f.no:=Int.toNat_of_nonneg a1;have h4:=exc_mof base J R.z f.c f.no.toNat;rw[hno,hb]at h4;rw[h4]at he;obtain⟨e1,e2⟩:=exc_yes he;have hRa:R.at f.no.toNat=some f.c:=by unfold Rc.at;rw[hno];exact rfind_in (may_okFrom hR) f hf
  have hja:=at_jn x R hk;rw[hj,hd,hRa]at hja;cases hxa:x.at f.no.toNat with
  | none=>
   rw[hxa]at hja;have:ofilt x.d (omerge none (some f.c))=some f.c:=ofilt_some e1;rw[this]at hja;cases hja
  | some e=>
   rw[hxa]at hja;have h5:=e2 e hxa;have:ofilt x.d (omerge (some e) (some f.c))=some f.c:=by
    show ofilt x.d (some (cjoin e f.c))=_;rw[cjoin_yes h5];exact ofilt_some e1
   rw[this]at hja;rw[Option.some.inj hja]at h5;rw[cless_self]at h5;cases h5
 unfold apart;rw[if_neg (fun h=>h.elim (fun h=>by rw[h1]at h;cases h) (fun h=>h h2))]
theorem parts_noA {base:List Int} {X J:List Rc} (hX:bmay X=true) (hJ:bmay J=true) (h:∀ R∈X,∃ x,bat J R.z=some x∧jn x R=x):X.filterMap (apart (mof SH.sum base J))=[]:=by
 refine List.filterMap_eq_nil_iff.2 fun R hR=>?_;obtain⟨x,h1,h2⟩:=h R hR;exact apart_no (bat_may (bmay_iff.1 hJ).2.1 h1).1 ((bmay_iff.1 hX).2.1 R hR) h1 h2
theorem join_eats {X J:List Rc} (hX:bmay X=true) (hJ:bmay J=true) (h:bjoin J X=J):∀ R∈X,∃ x,bat J R.z=some x∧jn x R=x:=fun R hR=>by
 obtain⟨_,m1,r1⟩:=bmay_iff.1 hX;obtain⟨_,m2,r2⟩:=bmay_iff.1 hJ;have h1:=bat_bjoin r2 r1 R.z;rw[h,bat_mem r1 hR]at h1;cases hb:bat J R.z with
 | none=>rw[hb]at h1;cases h1
 | some x=>
  rw[hb]at h1;exact⟨x,rfl,(Option.some.inj h1).symm⟩
theorem parts_own {base:List Int} {Y:List Rc} (hY:bmay Y=true):Y.filterMap (apart (mof SH.sum base Y))=[]:=
 parts_noA hY hY (join_eats hY hY (bjoin_self (bmay_iff.1 hY).2.1 (bmay_iff.1 hY).2.2))
theorem apart_all {base:List Int} {R:Rc} (hR:R.may=true):apart (mof SH.sum base []) R=some R:=by
 have hp:=ppart_none (base:=base) (Y:=[]) hR rfl;have h0:=congrArg Rc.fs hp;have h1:pfs R (mof SH.sum base [])=R.fs:=h0;unfold apart;rw[hp,if_pos];by_cases hf:R.fs=[]
 ·left
  unfold pless;rw[ldead_mof];show stLess 0 0 R.n R.r=true;have hm:=may_iff.1 (may_dead hR);have hn:¬ (R.n=0∧R.r=0):=fun h=>by
   unfold Rc.may rmay at hR;rw[h.1,h.2,hf]at hR;simp at hR
  exact stLess_iff.2 (.inl (by omega))
 ·exact .inr (by rw[h1];exact hf)
theorem parts_all {base:List Int}:∀ {X:List Rc},AllMay X→X.filterMap (apart (mof SH.sum base []))=X
 | [],_=>rfl
 | R::X,h=>by
  rw[List.filterMap_cons_some (apart_all (h R List.mem_cons_self)),parts_all fun x hx=>h x (List.mem_cons_of_mem _ hx)]
theorem addX_ok {Y:List Rc} {P:Rc} (h:addOk Y P) (h0:(addX Y P).1=0):bmay (addX Y P).2=true∧bleq Y (addX Y P).2=true∧(¬ (P.n=0∧P.r=0)→bleq [adead P] (addX Y P).2=true):=by
 obtain⟨h1,h2,h3,h4⟩:=h;unfold addX at h0 ⊢
 split
 ·rename_i e
  exact⟨h1,by rw[bleq_refl];exact h1,fun hn=>absurd e hn⟩
 ·rename_i e
  rw[if_neg e]at h0;have ha:bmay [adead P]=true:=bmay_one (adead_may h2 e);obtain⟨_,_,hl,hx⟩:=bjE_ok h0;rw[hx];exact⟨bjoin_bmay h1 ha hl,bleq_join1 h1 ha hl,fun _=>bleq_join2 h1 ha hl⟩
theorem addE_ok {Y:List Rc} {P:Rc} (h:(addE Y P).1=0):addOk Y P∧bmay (addE Y P).2=true∧bleq Y (addE Y P).2=true∧(¬ (P.n=0∧P.r=0)→bleq [adead P] (addE Y P).2=true)∧(P.fs≠[]→bleq [aliv P] (addE Y P).2=true):=by
 unfold addE at h ⊢
 split at h
 ·rename_i ok
  rw[if_pos ok]
  split at h
  ·rename_i h0
   rw[if_pos h0];have hx:(addX Y P).1=0:=by
    unfold addY at h0
    split at h0
    ·rename_i hh;exact hh.1
    ·exact h0
   obtain⟨x1,x2,x3⟩:=addX_ok ok hx;unfold addY at h0 ⊢;by_cases hf:P.fs=[]
   ·rw[if_neg (fun hh=>hh.2 hf)];exact⟨ok,x1,x2,x3,fun hh=>absurd hf hh⟩
   ·rw[if_pos ⟨hx,hf⟩]at h0 ⊢;have ha:bmay [aliv P]=true:=bmay_one (ok.2.2.2.resolve_left hf);obtain⟨_,_,hl,he⟩:=bjE_ok h0;rw[he];have hj:=bleq_join1 x1 ha hl;exact⟨ok,bjoin_bmay x1 ha hl,bleq_trans x2 hj,fun hn=>bleq_trans (x3 hn) hj,fun _=>bleq_join2 x1 ha hl⟩
  ·rename_i h0
   exact absurd h h0
 ·cases h
end
section
section
open Go.RowKit WM
theorem one_any (s:ByteArray) (w:World) (hlaid:Laid w) (hs:s.size≤1000000):Calls Tryz.prog 108 #[.string s] w fun e w'=>e=.returned (KSig.v (sgOne (nums s)))∧Below w.heap.size w w':=by
 have hz:=zeroSig;have hok:=sgOne_ok (nums s);have HC1:=Yy (fun w=>rlsum_any s w hs);have HC2:=Yy (fun (X:World) (hX:Below w.heap.size w X)=>of_any s X (hlaid.below hX Nl) (by omega));unfold DSumPost at HC2;have HBD:=Yy (fun w9=>build_sig (x:=sgOne (nums s)) hok.2.2.1 w9);have SZ:=Yy (sig_size hok);have SQ:=Yy (sig_same sgz_ok hok);have SO:=Yy (sig_ones (sgOne (nums s)));have hrA:∀ X,Below (w.heap.size+1) (w.alloc (.cells (KSig.cs sgz).toArray 122)) X→X.heap[w.heap.size]?=some (.cells (KSig.cs sgz).toArray 122):=fun X hX=>(hX.block _ (by omega)).trans (heap_alloc_new w _);have hbA:Below w.heap.size w (w.alloc (.cells (KSig.cs sgz).toArray 122)):=(Below.refl _ _).alloc Nl _;have hszA:(w.alloc (.cells (KSig.cs sgz).toArray 122)).heap.size=w.heap.size+1:=World.size_alloc _ _;simp only[show (sgOne (nums s)).wk=rlS (nums s) from rfl,show (sgOne (nums s)).ds=SH.sum (nums s) from rfl]at HBD;rw[show KSig.v ⟨0,List.replicate 32 0⟩=.agg (KSig.cs sgz).toArray from rfl]at hz;rw[show KSig.v (sgOne (nums s))=.agg (KSig.cs (sgOne (nums s))).toArray from rfl]at HBD ⊢;have hzne:¬ (KSig.cs sgz).toArray=#[]:=by simp[KSig,Sg.cs]
 have HRA:=Yy hrA;have HBA:=Yy hbA;have HSZ:=Yy hszA;generalize (KSig.cs sgz).toArray=Z at *;generalize (KSig.cs (sgOne (nums s))).toArray=V at *;generalize rlS (nums s)=R at *;generalize bvals (SH.sum (nums s))=D at *;clear hrA hbA hszA hok hlaid;go_enter Tryz.func108,Tryz.ntmps108;go_wp2_with fail;refine (HC1.out _).mono ?_;rintro e w1 ⟨rfl,hb1⟩;rw[HSZ.out]at hb1;have HB1:=Yy hb1;clear hb1;go_wp2_with fail;refine (HC2.out _ (HBA.out.trans (HB1.out.mono (by omega)))).mono ?_;rintro e w2 ⟨rfl,hb2⟩;have HB2:=Yy (HB1.out.trans (hb2.mono (by have:=HB1.out.size;rw[HSZ.out]at this;exact this)));have F1:=Yy (HRA.out _ HB2.out);have F2:=Yy (show (w2.setRow w.heap.size V).heap[w.heap.size]?=some (.cells V 122) from setRow_heap _ _ _ _ _ _ F1.out);have F3:=Yy (below_setRow (HBA.out.trans (HB2.out.mono (by omega))) Nl V);clear hb2;go_wp2_with (first | ((with_reducible refine wpList_build_at (o:=⟨some 7,.build 122 #[(0,.tmp 4),(1,.tmp 6)],_,_,_,_⟩) ?_ 122 #[(0,.tmp 4),(1,.tmp 6)] ?_ #[(0,.int .u32 R),(1,.agg D)] ?_ _ (HBD.out w2) ?_);rfl;rfl;(simp only[List.map_toArray,List.map_cons,List.map_nil];rfl)) | ((with_reducible refine wpList_store_row (o:=⟨none,.store 122 (.tmp 2) (.tmp 7),_,_,_,_⟩) ?_ 122 (.tmp 2) (.tmp 7) ?_ w.heap.size V ?_ ?_ 122 _ F1.out SZ.out SQ.out SO.out ?_);rfl;rfl;rfl;rfl));exact bodyPost_ret (v:=.agg V) (by exact results_cell_row Tryz.results108 _ _ w.heap.size 122 V (0,0) _ rfl F2.out Tryz.underlying122 rfl SZ.out) (by rfl) ⟨rfl,F3.out⟩
end
section
open Go.RowKit WM
theorem cut_upto (s:ByteArray) (m:Nat) (hm:m≤s.size) (I:Int) (eI:I=m) (w:World):(Instr.slice 9 (.string s) none (some (.int .i64 I)) none).run Tryz.prog w=.ok (.string (s.extract 0 m)) w:=by
 subst eI;have h:=run_slice_string_h (P:=Tryz.prog) (w:=w) (t:=9) (s:=s) Tryz.underlying9 .i64 (m:Int) (by omega) (by omega)
 simpa using h
theorem cut_from (s:ByteArray) (m:Nat) (hm:m≤s.size) (I:Int) (eI:I=m) (w:World):(Instr.slice 9 (.string s) (some (.int .i64 I)) none none).run Tryz.prog w=.ok (.string (s.extract m s.size)) w:=by
 subst eI;have h:=run_slice_string_l (P:=Tryz.prog) (w:=w) (t:=9) (s:=s) Tryz.underlying9 .i64 (m:Int) (by omega) (by omega)
 simpa using h
theorem of10_new (s:ByteArray) (w:World) (hlaid:Laid w) (hs:s.size≤2000000):Calls Tryz.prog 81 #[.string s] w (KPostN KSig 122 w (sgOf (nums s))):=by
 have HN0:=Yy (kpostN_nil (K:=KSig) (te:=122) (Below.refl w.heap.size w));obtain⟨n,hn⟩:∃ n,n=s.size:=⟨_,rfl⟩;have HNN:=Yy (show (nums s).length=n by rw[nums_len,hn]);have hlen:s.size=n:=hn.symm;have HSZ:=Yy hlen;clear hn;by_cases h1:n<24
 ·have HV:=Yy (sgOf_none (zs:=nums s) (by rw[HNN.out];exact h1));have t1:(n:Int)<24:=by omega
  go_enter Tryz.func81,Tryz.ntmps81;go_wp2;go_ret;rw[HV.out];exact HN0.out
 ·have t0:¬ (n:Int)<24:=by omega
  have h24:¬ (nums s).length<24:=by rw[HNN.out];exact h1
  obtain⟨m,hm⟩:∃ m,m=n / 8:=⟨_,rfl⟩;have HLN:=Yy (sgOf_len h24);rw[HNN.out,← hm]at HLN;have HAT:=Yy (fun k (hk:k<m)=>sgOf_at h24 (k:=k) (by rw[HNN.out,← hm];exact hk));have HOK:=Yy (sgOf_ok (nums s));generalize sgOf (nums s)=L at *;have hm8:8*m≤n∧n<8*m+8:=by omega
  have hquo:Int.tdiv (n:Int) 8=(m:Int):=by rw[Int.tdiv_eq_ediv_of_nonneg (by omega)];omega
  have HPS:=Yy (fun (p:ByteArray) (hp:p.size=8) (X:World) (hX:Below w.heap.size w X)=>one_any p X (hlaid.below hX Nl) (by omega));obtain⟨i0,hi,hz0,hz1,hz2⟩:=info_parts infoSig;have hzl:(KSig.v ⟨0,List.replicate 32 0⟩).cells.size=KSig.n:=by decide
  have HUP:=Yy cut_upto;have HFR:=Yy cut_from;clear h1 h24 hm hlaid;go_enter Tryz.func81,Tryz.ntmps81;go_wp2_with (at_make;refine wpList_make_own _ rfl _ _ 66 rfl w.heap.size 122 i0 _ 33 Tryz.underlying66 hi hz0 hz1 .i64 .i64 (m:Int) m rfl rfl rfl (by rw[hz2];omega) (by simp only[maxLen];omega) Nl ?_;intro w1 hown hgrow;have OW:=Yy hown;have BW:=Yy ((Below.refl w.heap.size w).grown hgrow Nl (fun _ h=>by cases h));clear hown hgrow);go_loopw [0,3] (fun r v wr=>∃ (k q:Nat) (R:ByteArray),k≤m∧R.size=q∧q+8*k=n∧r=.string R∧nums R=(nums s).drop (8*k)∧wr.ownsRow w.heap.size 122 KSig.n v k ((L.take k).flatMap KSig.cs)∧Below w.heap.size w wr) (fun r _ _=>match r with | .string R=>R.size | _=>0)
  case atStart=>exact⟨0,n,s,Nat.zero_le _,hlen,rfl,rfl,by simp,OW.out,BW.out⟩
  case round=>
   obtain⟨k,q,R,hk,hq,hqn,rfl,hR,ho,hb⟩:=hrel;have HO:=Yy ho;have HBB:=Yy hb;have HRR:=Yy hR;have HQ:=Yy hq;have HQN:=Yy hqn;by_cases hlt:k<m
   ·have t1:(8:Int)≤(q:Int):=by omega
    have hup:=HUP.out R 8 (by omega) 8 rfl;have hfr:=HFR.out R 8 (by omega) 8 rfl;have HNP:=Yy (show nums (R.extract 0 8)=((nums s).drop (8*k)).take 8 by rw[nums_extract,hR,List.drop_zero]);have HZP:=Yy (show (R.extract 0 8).size=8 from extract_size _ _ _ (by omega));have HNF:=Yy (show nums (R.extract 8 R.size)=(nums s).drop (8*(k+1)) by
     rw[nums_extract,hR,List.drop_drop,List.take_of_length_le (by rw[List.length_drop,HNN.out];omega)];rw[show 8*(k+1)=8*k+8 by omega])
    have HZF:=Yy (show (R.extract 8 R.size).size=q - 8 by rw[extract_size _ _ _ Nl,hq]);have HC:=Yy (HPS.out (R.extract 0 8) HZP.out wr hb);rw[HNP.out,← HAT.out k hlt]at HC;have HXO:=Yy (HOK.out (L.getD k sg0) (by rw[List.getD_eq_getElem?_getD,List.getElem?_eq_getElem (by rw[HLN.out];exact hlt)];exact List.getElem_mem _));have HTK:=Yy (show L.take (k+1)=L.take k++[L.getD k sg0] by
     rw[List.take_succ_eq_append_getElem (by rw[HLN.out];exact hlt),List.getD_eq_getElem?_getD,List.getElem?_eq_getElem (by rw[HLN.out];exact hlt)]
     rfl)
    clear HNP HZP hR;generalize R.extract 0 8=p at *;generalize R.extract 8 R.size=f at *;generalize L.getD k sg0=x at *;clear ho hb hqn;go_wp2_with fail;refine HC.out.mono ?_;rintro e w1 ⟨rfl,hb1⟩;have B1:=Yy (HBB.out.trans (hb1.mono HBB.out.size));have O1:=Yy ((own_below HO.out hb1).alloc (.cells (KSig.cs x).toArray 122));have B2:=Yy (B1.out.alloc B1.out.size (.cells (KSig.cs x).toArray 122));have R2:=Yy (Kind.row_one (K:=KSig) (w:=w1) (x:=x) (t:=122) HXO.out);have VL:Hid (k+1≤10000000):=Yy (by omega);have VS:=Yy B2.out.size;have XL:=Yy (show (KSig.cs x).length=KSig.n from Sg.cs_len HXO.out);clear hb1;go_wp2_with (first | ((with_reducible refine wpList_bsliceK (K:=KSig) (o:=⟨some 18,.buildSlice 66 1 #[(0,.tmp 17)],_,_,_,_⟩) ?_ (.tmp 17) ?_ x ?_ XL.out Tryz.underlying66 sizeSigK zeroSig nSig ?_);rfl;rfl;rfl) | (at_builtin;refine wpList_append_K (K:=KSig) _ rfl _ _ 66 rfl w.heap.size 122 i0 _ 36 Tryz.underlying66 hi hz0 hz1 hz2 hzl (by omega) _ k (L.take k) rfl O1.out (some ⟨w1.heap.size,0,none⟩) 1 1 [x] rfl R2.out rfl VL.out VS.out ?_;intro v3 w3 ho3 hg3;have O3:=Yy ho3;have B3:=Yy (B2.out.grown hg3 B2.out.size (fun g hg=>own_base O1.out hg));obtain⟨g13,cap13,rfl⟩:=ownsRow_succ ho3;clear ho3 hg3));go_roundw
    case rel=>exact⟨k+1,q - 8,f,by omega,HZF.out,by have:=HQN.out;omega,rfl,HNF.out,by rw[HTK.out];exact O3.out,B3.out⟩
    case measure=>simp only[HZF.out];have:=HQ.out;omega
   ·obtain rfl:k=m:=by omega
    have t1:¬ (8:Int)≤(q:Int):=by omega
    have hT:L.take k=L:=List.take_of_length_le (by rw[HLN.out];exact Nat.le_refl _);rw[hT]at ho;have hll:=HLN.out;rw[← hll]at ho;have HO:=Yy ho;clear ho hb hT hll hR;go_wp2;go_ret;exact kpostN_own HO.out HOK.out HBB.out
end
section
open Go.RowKit WM
end
section
open Go.RowKit WM
end
section
open Go.RowKit WM
end
end
section
open Go.RowKit WM
def z7:List Int:=[7,0,0,0,0,0,0,0,0,0,0,0,0,0,0,0]
theorem z7_len:z7.length=16:=rfl
theorem z7_bytes:AllBytes z7:=by unfold AllBytes z7;decide
def recX:Rc:=⟨z7,0,0,[⟨2,⟨1,1,⟨#[120]⟩⟩⟩]⟩
theorem write_X:bwrite [] z7 2 1 ⟨#[120]⟩=(0,[recX]):=rfl
theorem bat_X:bat [recX] z7=some recX:=rfl
theorem built_z7:Tryz.prog.built 31 [(0,.int .u8 7)]=some (bvals z7):=by kernel_rfl
theorem build_z7 (w:World):(Instr.build 31 #[(0,.int .u8 7)]).run Tryz.prog w=.ok (.agg (bvals z7)) w:=run_build w _ _ _ built_z7
end
end Go.Proofs.YtnlhkpmgbpfjmaaGreatDoor
