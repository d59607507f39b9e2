import Derived.Test.YtnlhkpmgbpfjmaaGreatDoorQe18
/- What functions answer, part 19. -/
namespace Go.Proofs.YtnlhkpmgbpfjmaaGreatDoor
set_option linter.unusedVariables false
set_option linter.unusedSimpArgs false
set_option maxHeartbeats 16000000
set_option maxRecDepth 100000
section
section
open Go.RowKit WM
def lastF (s:Int×Int) (fs:List Fld):Int×Int:=fs.foldl (fun s f=>mx s (f.c.n,f.c.r)) s
def lastR (s:Int×Int) (r:Rc):Int×Int:=lastF (mx s (r.n,r.r)) r.fs
def blast (rs:List Rc):Int×Int:=rs.foldl lastR (0,0)
theorem lastF_snoc {s:Int×Int} {fs:List Fld} {k:Nat} (hk:k<fs.length):lastF s (fs.take (k+1))=mx (lastF s (fs.take k)) ((fs.getD k fld0).c.n,(fs.getD k fld0).c.r):=by
 unfold lastF;rw[List.take_succ_eq_append_getElem hk,List.foldl_append];simp only[List.foldl_cons,List.foldl_nil,List.getD,List.getElem?_eq_getElem hk,Option.getD_some]
theorem last_snoc {xs:List RcA} {k:Nat} (hk:k<xs.length):((xs.take (k+1)).map (·.R)).foldl lastR (0,0)=lastR (((xs.take k).map (·.R)).foldl lastR (0,0)) (xs.getD k rcA0).R:=by
 exact Tta27
theorem blast_any (b:Bk) (w:World) (h:BkAt w b):
  Calls Tryz.prog 65 #[.agg #[.slice b.A b.xs.length b.c]] w fun e w'=>e=.returned (st (blast b.rs).1 (blast b.rs).2)∧Below w.heap.size w w':=by
 obtain⟨xs,A,c⟩:=b;dsimp only at h ⊢;have s0:=(((BoAt.new w (.slice A xs.length c)).old (.cells #[.int .i64 0,.int .i64 0] 33)).old (.cells #[.int .i64 0,.int .i64 0] 33));have c00:=s0.c0;have r1:=(StAt.new (w.alloc (.cells #[.slice A xs.length c] 24)) 0 0).old (.cells #[.int .i64 0,.int .i64 0] 33);rw[World.size_alloc]at r1;have r2:=StAt.new ((w.alloc (.cells #[.slice A xs.length c] 24)).alloc (.cells #[.int .i64 0,.int .i64 0] 33)) 0 0;rw[World.size_alloc,World.size_alloc]at r2;have HB:=Yy ((((Below.refl w.heap.size w).alloc Nl (.cells #[.slice A xs.length c] 24)).alloc (by simp) (.cells #[.int .i64 0,.int .i64 0] 33)).alloc (by simp;omega) (.cells #[.int .i64 0,.int .i64 0] 33));have H0:=Yy (And.intro r1 r2);have HRV:=Yy (fun i (hi:i<xs.length)=>RsAt.rv h hi);obtain⟨hc1,hc2,hc3,hcell,_⟩:=h;dsimp only at hc1 hc2 hc3 hcell HRV;simp only[maxLen]at hc2;have HC:=Yy hcell;have hz:=zeroX;have HMX:=Yy max_any;unfold st at HMX;generalize hlen:xs.length=len at *;have HLN:=Yy hlen;clear hcell s0 r1 r2 hlen;unfold blast Bk.rs st;dsimp only;generalize hV:(xs.map (·.R)).foldl lastR (0,0)=V;have HV:=Yy hV;clear hV;go_enter Tryz.func65,Tryz.ntmps65;go_wp2;clear c00;go_loopw [11] (fun i wr=>∃ (k:Nat) (s:Int×Int),k≤len∧i=.int .i64 k∧StAt wr (w.heap.size+1) 0 0∧StAt wr (w.heap.size+1+1) s.1 s.2∧Below w.heap.size w wr∧s=((xs.take k).map (·.R)).foldl lastR (0,0)) (fun i _=>len - (intOf i).toNat)
 case atStart=>exact⟨0,(0,0),Nat.zero_le _,rfl,H0.out.1,H0.out.2,HB.out,rfl⟩
 case round=>
  obtain⟨k,s,hk,rfl,hr,hs,hb,hf⟩:=hrel;by_cases hlt:k<len
  ·obtain⟨b0,off,rfl,hbB,hcc⟩:=HC.out (by omega);have hx:=(hcc k hlt).same (hb.block b0 hbB);have IX:=ix_rec b0 off len c k hlt k rfl;have hvx:=HRV.out k hlt;have hsn:=last_snoc (xs:=xs) (k:=k) (by rw[HLN.out];exact hlt);rw[← hf]at hsn;generalize xs.getD k rcA0=x at *;generalize off+k*19=ox at *;have LX:=Yy hx.load;have HVX:=Yy hvx;have ZX:=Yy hvx.len;have HSN:=Yy hsn;have HBB:=Yy (And.intro hr (And.intro hs hb));clear hcc hx hvx hsn hr hs hb hf;go_wp2_with (first | ((with_reducible refine YyL 36 (.tmp 13) ⟨b0,ox,none⟩ LX.out ?_ ?_ ?_);rfl;rfl) | ((with_reducible refine wpList_store_newx (o:=⟨none,.store 36 (.tmp 5) (.tmp 14),_,_,_,_⟩) (w:=wr) ?_ (.tmp 5) (.tmp 14) ?_ wr.heap.size ?_ ?_ x ?_ ZX.out ?_);rfl;rfl;rfl;rfl;rfl;intro w2 hb2 hx2 hs2;have X2:=Yy hx2;have R2:=Yy (HBB.out.1.below hb2 HBB.out.1.lt);have S2:=Yy (HBB.out.2.1.below hb2 HBB.out.2.1.lt);have B2:=Yy (HBB.out.2.2.trans (hb2.mono HBB.out.2.2.size));have d16:=X2.out.c16;have d17:=X2.out.c17;have e0:=S2.out.c0;have e1:=S2.out.c1;clear hx2 hb2 hs2));refine (HMX.out s (x.R.n,x.R.r) _).mono ?_;rintro e w3 ⟨rfl,hb3⟩;have X3:=X2.out.below hb3 X2.out.lt;have S3:=S2.out.below hb3 S2.out.lt;have R3:=Yy (R2.out.below hb3 R2.out.lt);have f0:=S3.fz 0;have f1:=S3.fz 1;have e0:=S3.c0;have e1:=S3.c1;have B3:=B2.out.trans (hb3.mono B2.out.size);have S4:=Yy (S3.put (mx s (x.R.n,x.R.r)).1 (mx s (x.R.n,x.R.r)).2)
   have B4:=Yy (below_put B3 (show w.heap.size≤w.heap.size+1+1 by omega) (.int .i64 (mx s (x.R.n,x.R.r)).1) (.int .i64 (mx s (x.R.n,x.R.r)).2));have R4:Hid (StAt (((w3.setCell ⟨w.heap.size+1+1,0,none⟩ (.int .i64 (mx s (x.R.n,x.R.r)).1))).setCell ⟨w.heap.size+1+1,1,none⟩ (.int .i64 (mx s (x.R.n,x.R.r)).2)) (w.heap.size+1) 0 0):=Yy (by
    unfold StAt;rw[Below.heap_setCell _ _ _ _ (show w.heap.size+1≠w.heap.size+1+1 by omega),Below.heap_setCell _ _ _ _ (show w.heap.size+1≠w.heap.size+1+1 by omega)];exact R3.out)
   have X4:XAt (((w3.setCell ⟨w.heap.size+1+1,0,none⟩ (.int .i64 (mx s (x.R.n,x.R.r)).1))).setCell ⟨w.heap.size+1+1,1,none⟩ (.int .i64 (mx s (x.R.n,x.R.r)).2)) wr.heap.size x:=X3.same (by
    have:=HBB.out.2.1.lt;rw[Below.heap_setCell _ _ _ _ (show wr.heap.size≠w.heap.size+1+1 by omega),Below.heap_setCell _ _ _ _ (show wr.heap.size≠w.heap.size+1+1 by omega)])
   have x18:=X4.c18;have HS0:Hid (lastR s x.R=lastF (mx s (x.R.n,x.R.r)) x.R.fs):=Yy rfl;have HFS:=Yy HVX.out.2;generalize mx s (x.R.n,x.R.r)=s0 at *;generalize hfl:x.R.fs.length=fl at *;have HFL:=Yy hfl;clear hb3 X3 S3 B3 X4 hfl d16 d17;go_wp2;clear x18 e0 e1 f0 f1;generalize hw4:((w3.setCell ⟨w.heap.size+1+1,0,none⟩ (.int .i64 s0.1))).setCell ⟨w.heap.size+1+1,1,none⟩ (.int .i64 s0.2)=w4 at *;go_loopw [22] (fun i wi=>∃ (j:Nat) (t:Int×Int),j≤fl∧i=.int .i64 j∧StAt wi (w.heap.size+1) 0 0∧StAt wi (w.heap.size+1+1) t.1 t.2∧Below w.heap.size w wi∧t=lastF s0 (x.R.fs.take j)) (fun i _=>fl - (intOf i).toNat)
   case atStart=>exact⟨0,s0,Nat.zero_le _,rfl,R4.out,S4.out,B4.out,rfl⟩
   case round=>
    obtain⟨j,t,hj,rfl,hr,hs,hb,hf⟩:=hrel;by_cases hlt2:j<fl
    ·obtain⟨hq1,hq2,hq3,hq4⟩:=HFS.out;obtain⟨b1,off1,hA1,hb1,hcc⟩:=hq4 (by rw[HFL.out];omega);simp only[maxLen]at hq2;have hflc:fl≤x.c:=by have:=HFL.out;omega
     rw[hA1];obtain⟨c0,c1,c2,c3⟩:=hcc j (by rw[HFL.out];exact hlt2);have c0:=(hb.cell (p:=⟨b1,off1+j*4,none⟩) hb1).trans c0;have c1:=(hb.cell (p:=⟨b1,off1+j*4+1,none⟩) hb1).trans c1;have c2:=(hb.cell (p:=⟨b1,off1+j*4+2,none⟩) hb1).trans c2;have c3:=(hb.cell (p:=⟨b1,off1+j*4+3,none⟩) hb1).trans c3;have IXF:=ix_fld b1 off1 fl x.c j hlt2 j rfl;have hsn:=lastF_snoc (s:=s0) (fs:=x.R.fs) (k:=j) (by rw[HFL.out];exact hlt2);rw[← hf]at hsn;generalize x.R.fs.getD j fld0=f at *;generalize off1+j*4=o1 at *;have HSN2:=Yy hsn;have SA:=hs.old (.cells #[.int .i64 f.no,.int .i64 f.c.n,.int .i64 f.c.r,.string f.c.s] 59);have RA:=hr.old (.cells #[.int .i64 f.no,.int .i64 f.c.n,.int .i64 f.c.r,.string f.c.s] 59);have BA:=hb.alloc hb.size (.cells #[.int .i64 f.no,.int .i64 f.c.n,.int .i64 f.c.r,.string f.c.s] 59);have e0:=SA.c0;have e1:=SA.c1;have HSA:=Yy (And.intro SA (And.intro RA BA));have HA1:=Yy hA1;clear hcc hq4 hsn hr hs hb hf SA RA BA hA1;go_wp2_with fail;refine (HMX.out t (f.c.n,f.c.r) _).mono ?_;rintro e w5 ⟨rfl,hb5⟩;have S5:=HSA.out.1.below hb5 HSA.out.1.lt;have f0:=S5.fz 0;have f1:=S5.fz 1;have e0:=S5.c0;have e1:=S5.c1;have R5:=HSA.out.2.1.below hb5 HSA.out.2.1.lt;have B5:=HSA.out.2.2.trans (hb5.mono HSA.out.2.2.size);have S6:=Yy (S5.put (mx t (f.c.n,f.c.r)).1 (mx t (f.c.n,f.c.r)).2);have B6:=Yy (below_put B5 (show w.heap.size≤w.heap.size+1+1 by omega) (.int .i64 (mx t (f.c.n,f.c.r)).1) (.int .i64 (mx t (f.c.n,f.c.r)).2))
     have R6:Hid (StAt (((w5.setCell ⟨w.heap.size+1+1,0,none⟩ (.int .i64 (mx t (f.c.n,f.c.r)).1))).setCell ⟨w.heap.size+1+1,1,none⟩ (.int .i64 (mx t (f.c.n,f.c.r)).2)) (w.heap.size+1) 0 0):=Yy (by
      unfold StAt;rw[Below.heap_setCell _ _ _ _ (show w.heap.size+1≠w.heap.size+1+1 by omega),Below.heap_setCell _ _ _ _ (show w.heap.size+1≠w.heap.size+1+1 by omega)];exact R5)
     generalize mx t (f.c.n,f.c.r)=t2 at *;clear hb5 S5 R5 B5 c0 c1 c2 c3;go_wp2;go_roundw
     case rel=>exact⟨j+1,t2,by omega,by go_num,R6.out,S6.out,B6.out,HSN2.out.symm⟩
     case measure=>simp[intOf];omega
    ·obtain rfl:j=fl:=by omega
     rw[List.take_of_length_le (by rw[HFL.out];exact Nat.le_refl _),← HS0.out,← HSN.out]at hf;have HF2:=Yy hf;have HRR:=Yy (And.intro hr (And.intro hs hb));clear hr hs hb hf;go_wp2;go_roundw
     case rel=>exact⟨k+1,t,by omega,by go_num,HRR.out.1,HRR.out.2.1,HRR.out.2.2,HF2.out⟩
     case measure=>simp[intOf];omega
  ·obtain rfl:k=len:=by omega
   rw[List.take_of_length_le (by rw[HLN.out];exact Nat.le_refl _),HV.out]at hf;subst hf;have e0:=hs.c0;have e1:=hs.c1;have f0:=hr.fz 0;have f1:=hr.fz 1;have g0:=hr.c0;have g1:=hr.c1;have HP:=Yy (hr.put s.1 s.2);have HQ:=Yy (below_put hb (show w.heap.size≤w.heap.size+1 by omega) (.int .i64 s.1) (.int .i64 s.2));clear hs hr hb;go_wp2;refine bodyPost_ret (v:=st s.1 s.2) ?_ rfl ⟨rfl,HQ.out⟩;exact res_st Tryz.results65 rfl HP.out
end
section
open Go.RowKit WM
theorem bmayRep_any (r:Int) (w:World):Calls Tryz.prog 63 #[.int .i64 r] w fun e w'=>e=.returned (.bool (mayR r))∧Below w.heap.size w w':=by
 have HB:=Yy (Below.refl w.heap.size w);by_cases h0:0≤r
 ·go_enter Tryz.func63,Tryz.ntmps63;go_wp2;go_ret;exact⟨by simp[mayR,h0],HB.out⟩
 ·go_enter Tryz.func63,Tryz.ntmps63;go_wp2;go_ret;exact⟨by rw[mayR,decide_eq_false (by omega)];rfl,HB.out⟩
theorem one_at {w:World} {x:RcA} (h:RvAt w x):BkAt (w.alloc (.cells x.cells 36)) ⟨[x],some ⟨w.heap.size,0,none⟩,1⟩:=by
 refine⟨Nat.le_refl _,(show 1≤maxLen by decide),(fun e=>by cases e),fun _=>⟨w.heap.size,0,rfl,by rw[World.size_alloc];omega,fun i hi=>?_⟩,fun y hy=>?_⟩
 ·obtain rfl:i=0:=by simpa using hi
  exact (XAt.new w h.len).rec
 ·rw[List.mem_singleton.1 hy];exact h.below ((Below.refl w.heap.size w).alloc Nl _) Nl
theorem with_any (b:Bk) (x:RcA) (w:World) (hlaid:Laid w) (h1:BkAt w b) (h2:RvAt w x):
  Calls Tryz.prog 66 #[.agg #[.slice b.A b.xs.length b.c],.agg x.cells] w (BJoinPost w (bjE b.rs [x.R])):=by
 have s0:=((BoAt.new w (.slice b.A b.xs.length b.c)).old (.cells x.cells 36)).old (.cells #[.slice none 0 0] 24);have x1:=(XAt.new (x:=x) (w.alloc (.cells #[.slice b.A b.xs.length b.c] 24)) h2.len).old (.cells #[.slice none 0 0] 24);rw[World.size_alloc]at x1;have s2:=BoAt.new ((w.alloc (.cells #[.slice b.A b.xs.length b.c] 24)).alloc (.cells x.cells 36)) (.slice none 0 0);rw[World.size_alloc,World.size_alloc]at s2;have S2:=Yy s2;have HB:=Yy ((((Below.refl w.heap.size w).alloc Nl (.cells #[.slice b.A b.xs.length b.c] 24)).alloc (by simp) (.cells x.cells 36)).alloc (by simp;omega) (.cells #[.slice none 0 0] 24));have L6:=Yy s0.load;have L7:=Yy x1.load;have ZX:=Yy h2.len;have hz:∀ w:World,(zeroValue 24).run Tryz.prog w=.ok (.agg #[.slice none 0 0]) w:=zeroBook;have hb1:=build_book;have hv:=h2.below HB.out Nl;have BA:=(Below.refl ((((w.alloc (.cells #[.slice b.A b.xs.length b.c] 24)).alloc (.cells x.cells 36)).alloc (.cells #[.slice none 0 0] 24))).heap.size _).alloc Nl (.cells x.cells 36);have HBA:=Yy (HB.out.trans (BA.mono HB.out.size));have HO:=one_at hv;have HJ:=Yy (bjoin_any b ⟨[x],_,1⟩ _ (hlaid.below HBA.out Nl) (h1.below HBA.out Nl) HO);have S3:=Yy (S2.out.below BA S2.out.lt);unfold BJoinPost at HJ;unfold BJoinPost;have HE:Hid (bjE b.rs (Bk.rs ⟨[x],some ⟨w.heap.size+1+1+1,0,none⟩,1⟩)=bjE b.rs [x.R]):=Yy rfl;simp only[World.size_alloc]at HJ;dsimp only[List.length_cons,List.length_nil]at HJ;rw[HE.out]at HJ;generalize bjE b.rs [x.R]=r at HJ ⊢
 clear s0 x1 s2 h1 h2 hlaid hv BA HO;go_enter Tryz.func66,Tryz.ntmps66;go_wp2_with (first | ((with_reducible refine YyL 24 (.tmp 2) ⟨w.heap.size,0,none⟩ L6.out ?_ ?_ ?_);rfl;rfl) | ((with_reducible refine YyL 36 (.tmp 3) ⟨(w.heap.size+1),0,none⟩ L7.out ?_ ?_ ?_);rfl;rfl) | ((with_reducible refine wpList_bslice (o:=⟨some 8,.buildSlice 22 1 #[(0,.tmp 7)],_,_,_,_⟩) ?_ (.tmp 7) ?_ x ?_ ZX.out ?_);rfl;rfl;rfl));refine HJ.out.mono ?_;rintro e w1 ⟨d,rfl,hd,hk,hb⟩;have S4:=Yy (S3.out.below hb (by have:=S3.out.lt;simp only[World.size_alloc]at this;exact this));have B1:=Yy (HBA.out.trans (hb.mono (by have:=HBA.out.size;simp only[World.size_alloc]at this;exact this)));have HD:=Yy hd;have HK:=Yy hk;clear hb hd hk;go_wp2_with (first | ((with_reducible refine wpList_store_oldb (o:=⟨none,.store 24 (.tmp 4) (.tmp 11),_,_,_,_⟩) ?_ (.tmp 4) (.tmp 11) ?_ (w.heap.size+1+1) _ S4.out ?_ (.slice d.A d.xs.length d.c) ?_ ?_ ?_);rfl;rfl;rfl;rfl;rfl;intro w2 hg2 hx2;have G9:=Yy hg2;have X9:=Yy hx2;clear hg2 hx2));refine bodyPost_ret (v:=.tuple #[.agg #[.slice d.A d.xs.length d.c],.int .i64 r.1]) ?_ rfl ?_
 ·exact res_bk2 Tryz.results66 rfl X9.out
 ·exact⟨d,rfl,HD.out,HK.out.kept_bo G9.out S4.out,B1.out.grown G9.out B1.out.size (fun k e=>by have:=Option.some.inj e;omega)⟩
theorem wpList_build_by {w:World} {ops:Array Oper} {rest:List Oper} {o:Oper} {a:Act} {Q:Exit→Act→World→Prop} (hgd:o.guard=none) (t:TypeId) (parts:Array (Nat×Operand)) (hop:o.op=.build t parts) (ps:Array (Nat×Value)) (hp:parts.map (fun x=>(x.1,a.eval x.2))=ps)
  (v:Value) (hv:(Instr.build t ps).run Tryz.prog w=.ok v w) (hK:wpList Tryz.prog ops Q rest (a.put o.dst v) w):wpList Tryz.prog ops Q (o::rest) a w:=by
 refine wpList_plain hgd fun K' hK'=>?_;unfold Oper.wp execOp;have e:parts.map (fun x=>match x with | (i,x)=>(i,a.eval x))=ps:=hp;simp only[hop];rw[e];simp only[Sem.run_bind,hv,Result.andThen_ok,Sem.run_pure];exact hK' _ _ hK
def bnext (rs:List Rc) (q:Int):Int×Int×Int:=nxt (blast rs).1 (blast rs).2 q
def bwok (rs:List Rc) (no q:Int) (s:ByteArray):Bool:=bmay rs && decide (0≤no) && decide (no<8) && mayR q && decide (s.size≤200)
def wrec (z:List Int) (no:Int) (t:Int×Int×Int) (s:ByteArray):Rc:=⟨z,0,0,[⟨no,⟨t.1,t.2.1,s⟩⟩]⟩
def bwrite (rs:List Rc) (z:List Int) (no q:Int) (s:ByteArray):Int×List Rc:=
 if bwok rs no q s=true then (if (bnext rs q).2.2=0 then bjE rs [wrec z no (bnext rs q) s] else ((bnext rs q).2.2,[])) else (1,[])
theorem built_zf {z:List Int} (h:z.length=16) (A:Option Addr) (l c:Nat):Tryz.prog.built 36 [(0,.agg (bvals z)),(2,.slice A l c)]=some (rcells z 0 0 (.slice A l c)):=by
 obtain⟨a,b,c',d,e,f,g,i,j,k,l',m,n',o,p,q,rfl⟩:=list16 h
 kernel_rfl
theorem build_zf {z:List Int} (h:z.length=16) (A:Option Addr) (l c:Nat) (w:World):(Instr.build 36 #[(0,.agg (bvals z)),(2,.slice A l c)]).run Tryz.prog w=.ok (.agg (rcells z 0 0 (.slice A l c))) w:=run_build w _ _ _ (built_zf h A l c)
theorem build_zd {z:List Int} (h:z.length=16) (n r:Int) (w:World):(Instr.build 36 #[(0,.agg (bvals z)),(1,.agg #[.int .i64 n,.int .i64 r])]).run Tryz.prog w=.ok (.agg (rcells z n r (.slice none 0 0))) w:=build_rec h n r w
theorem fs_one' (w:World) (f:Fld):FsAt (w.alloc (.cells #[.int .i64 f.no,.int .i64 f.c.n,.int .i64 f.c.r,.string f.c.s] 59)) (some ⟨w.heap.size,0,none⟩) 1 [f]:=by
 have hF:=FlAt.new w f;refine⟨Nat.le_refl _,by decide,fun h=>(by cases h),fun _=>⟨w.heap.size,0,rfl,hF.lt,fun i hi=>?_⟩⟩;obtain rfl:i=0:=by simpa using hi
 exact⟨hF.c0,hF.c1,hF.c2,hF.c3⟩
end
section
open Go.RowKit WM
theorem Tta1 {p:Prop} (h:p:=by
  clear hm;go_enter Tryz.func32,Tryz.ntmps32;go_wp2_with (first | ((with_reducible refine YyL 24 (.tmp 5) ⟨w.heap.size,0,none⟩ LA.out ?_ ?_ ?_);rfl;rfl));refine HM.out.mono ?_;rintro e w1 ⟨rfl,hb⟩;have S01:=Yy (S0.out.below hb S0.out.lt);have I11:=Yy (I1.out.below hb I1.out.lt);have S21:=Yy (S2.out.below hb S2.out.lt);have B1:=Yy (HB.out.trans (hb.mono HB.out.size));clear hb;go_wp2_with (first | ((with_reducible refine wpList_store_oldb (o:=⟨none,.store 24 (.tmp 10) (.tmp 36),_,_,_,_⟩) ?_ (.tmp 10) (.tmp 36) ?_ (w.heap.size+1+1) _ S21.out ?_ (.slice none 0 0) ?_ ?_ ?_);rfl;rfl;rfl;rfl;rfl;intro w2 hg2 hx2;have G9:=Yy hg2;have X9:=Yy hx2;clear hg2 hx2));refine bodyPost_ret (v:=.tuple #[.agg #[.slice none 0 0],.int .i64 1]) ?_ rfl ?_
  ·exact res_bk2 Tryz.results32 rfl X9.out
  ·rw[HE.out];exact⟨bk0,rfl,rfl,BkAt.zero _,B1.out.grown G9.out B1.out.size (fun k e=>by have:=Option.some.inj e;omega)⟩
 ):p:=h
theorem Tta0 {p:Prop} (h:p:=by
  clear hm hq;go_enter Tryz.func32,Tryz.ntmps32;go_wp2_with (first | ((with_reducible refine YyL 24 (.tmp 5) ⟨w.heap.size,0,none⟩ LA.out ?_ ?_ ?_);rfl;rfl));refine HM.out.mono ?_;rintro e w1 ⟨rfl,hb⟩;have S01:=Yy (S0.out.below hb S0.out.lt);have I11:=Yy (I1.out.below hb I1.out.lt);have S21:=Yy (S2.out.below hb S2.out.lt);have B1:=Yy (HB.out.trans (hb.mono HB.out.size));clear hb;go_wp2_with fail;refine (HR.out _).mono ?_;rintro e w2 ⟨rfl,hb⟩;have S02:=Yy (S01.out.below hb S01.out.lt);have I12:=Yy (I11.out.below hb I11.out.lt);have S22:=Yy (S21.out.below hb S21.out.lt);have B2:=Yy (B1.out.trans (hb.mono B1.out.size));clear hb;go_wp2_with (first | ((with_reducible refine wpList_store_oldb (o:=⟨none,.store 24 (.tmp 10) (.tmp 36),_,_,_,_⟩) ?_ (.tmp 10) (.tmp 36) ?_ (w.heap.size+1+1) _ S22.out ?_ (.slice none 0 0) ?_ ?_ ?_);rfl;rfl;rfl;rfl;rfl;intro w2 hg2 hx2;have G9:=Yy hg2;have X9:=Yy hx2;clear hg2 hx2));refine bodyPost_ret (v:=.tuple #[.agg #[.slice none 0 0],.int .i64 1]) ?_ rfl ?_
  ·exact res_bk2 Tryz.results32 rfl X9.out
  ·rw[HE.out];exact⟨bk0,rfl,rfl,BkAt.zero _,B2.out.grown G9.out B2.out.size (fun k e=>by have:=Option.some.inj e;omega)⟩
 ):p:=h
theorem bwrite_any (b:Bk) (z:List Int) (no q:Int) (s:ByteArray) (w:World) (hlaid:Laid w) (h1:BkAt w b) (hz16:z.length=16) (hzb:AllBytes z):
  Calls Tryz.prog 32 #[.agg #[.slice b.A b.xs.length b.c],.agg (bvals z),.int .i64 no,.int .i64 q,.string s] w (BJoinPost w (bwrite b.rs z no q s)):=by
 have s0:=((BoAt.new w (.slice b.A b.xs.length b.c)).old (.cells (bvals z) 31)).old (.cells #[.slice none 0 0] 24);have i1:=(IdAt.new (w.alloc (.cells #[.slice b.A b.xs.length b.c] 24)) hz16).old (.cells #[.slice none 0 0] 24);rw[World.size_alloc]at i1;have s2:=BoAt.new ((w.alloc (.cells #[.slice b.A b.xs.length b.c] 24)).alloc (.cells (bvals z) 31)) (.slice none 0 0);rw[World.size_alloc,World.size_alloc]at s2;have S0:=Yy s0;have I1:=Yy i1;have S2:=Yy s2;have HB:=Yy ((((Below.refl w.heap.size w).alloc Nl (.cells #[.slice b.A b.xs.length b.c] 24)).alloc (by simp) (.cells (bvals z) 31)).alloc (by simp;omega) (.cells #[.slice none 0 0] 24));have LA:=Yy S0.out.load;have HM:=Yy (bmay_any b _ (h1.below HB.out Nl));have H1:=Yy h1;have HZ:=Yy (And.intro hz16 hzb);have hz:∀ w:World,(zeroValue 24).run Tryz.prog w=.ok (.agg #[.slice none 0 0]) w:=zeroBook;have hb0:=build_book0;have HLA:=Yy (fun (X:World) (hX:Below w.heap.size w X)=>hlaid.below hX Nl);have HR:=Yy (fun w=>bmayRep_any q w);have HN:=Yy (fun w=>next_any (blast b.rs).1 (blast b.rs).2 q w);have HTT:Hid (nxt (blast b.rs).1 (blast b.rs).2 q=bnext b.rs q):=Yy rfl;rw[HTT.out]at HN;unfold st nxtV st at HN;clear s0 i1 s2 h1 hlaid hz16 hzb;cases hm:bmay b.rs
 ·have HE:=Yy (show bwrite b.rs z no q s=(1,[]) by unfold bwrite bwok;rw[hm];rfl);rw[hm]at HM;exact Tta1
 ·rw[hm]at HM;by_cases t1:no<0
  ·have HE:=Yy (show bwrite b.rs z no q s=(1,[]) by unfold bwrite bwok;rw[hm,decide_eq_false (show ¬ 0≤no by omega)];rfl);exact Tta1
  ·by_cases t2:8≤no
   ·have HE:=Yy (show bwrite b.rs z no q s=(1,[]) by unfold bwrite bwok;rw[hm,decide_eq_false (show ¬ no<8 by omega),Bool.and_false];rfl);exact Tta1
   ·cases hq:mayR q
    ·have HE:=Yy (show bwrite b.rs z no q s=(1,[]) by unfold bwrite bwok;rw[hq,Bool.and_false];rfl);rw[hq]at HR;exact Tta0
    ·rw[hq]at HR;by_cases t3:200<(s.size:Int)
     ·have HE:=Yy (show bwrite b.rs z no q s=(1,[]) by unfold bwrite bwok;rw[decide_eq_false (show ¬ s.size≤200 by omega),Bool.and_false];rfl);exact Tta0
     ·have HOK:bwok b.rs no q s=true:=by unfold bwok;rw[hm,hq,decide_eq_true (show 0≤no by omega),decide_eq_true (show no<8 by omega),decide_eq_true (show s.size≤200 by omega)];rfl
      have HEE:bwrite b.rs z no q s=if (bnext b.rs q).2.2=0 then bjE b.rs [wrec z no (bnext b.rs q) s] else ((bnext b.rs q).2.2,[]):=by unfold bwrite;rw[HOK,if_pos rfl]
      clear hm hq HOK HTT;generalize bnext b.rs q=t at *;by_cases t4:t.2.2=0
      ·rw[if_pos t4]at HEE;have HE:=Yy HEE;obtain⟨r,hr⟩:∃ r,bjE b.rs [wrec z no t s]=r:=⟨_,rfl⟩;have HRR:Hid (bjE b.rs [(⟨wrec z no t s,some ⟨0,0,none⟩,1⟩:RcA).R]=r):=Yy hr;rw[hr]at HE;clear HEE hr;go_enter Tryz.func32,Tryz.ntmps32;go_wp2_with (first | ((with_reducible refine YyL 24 (.tmp 5) ⟨w.heap.size,0,none⟩ LA.out ?_ ?_ ?_);rfl;rfl));refine HM.out.mono ?_;rintro e w1 ⟨rfl,hb⟩;have S01:=Yy (S0.out.below hb S0.out.lt);have I11:=Yy (I1.out.below hb I1.out.lt);have S21:=Yy (S2.out.below hb S2.out.lt);have B1:=Yy (HB.out.trans (hb.mono HB.out.size));clear hb;go_wp2_with fail;refine (HR.out _).mono ?_;rintro e w2 ⟨rfl,hb⟩;have S02:=Yy (S01.out.below hb S01.out.lt);have I12:=Yy (I11.out.below hb I11.out.lt);have S22:=Yy (S21.out.below hb S21.out.lt);have B2:=Yy (B1.out.trans (hb.mono B1.out.size));clear hb;have LB:=Yy S02.out.load;have HL:=Yy (blast_any b w2 (H1.out.below B2.out Nl));unfold st at HL;go_wp2_with (first | ((with_reducible refine YyL 24 (.tmp 5) ⟨w.heap.size,0,none⟩ LB.out ?_ ?_ ?_);rfl;rfl));refine HL.out.mono ?_;rintro e w3 ⟨rfl,hb⟩;have S03:=Yy (S02.out.below hb S02.out.lt);have I13:=Yy (I12.out.below hb I12.out.lt);have S23:=Yy (S22.out.below hb S22.out.lt);have B3:=Yy (B2.out.trans (hb.mono B2.out.size));clear hb;go_wp2_with fail;refine (HN.out _).mono ?_;rintro e w4 ⟨rfl,hb⟩;have S04:=Yy (S03.out.below hb S03.out.lt);have I14:=Yy (I13.out.below hb I13.out.lt);have S24:=Yy (S23.out.below hb S23.out.lt);have B4:=Yy (B3.out.trans (hb.mono B3.out.size));clear hb
       have BS:=(Below.refl w4.heap.size w4).alloc Nl (.cells #[.int .i64 t.1,.int .i64 t.2.1] 33);have BC:=BS.trans (((Below.refl _ _).alloc Nl (.cells #[.int .i64 t.1,.int .i64 t.2.1,.string s] 38)).mono BS.size);have BF:=BC.trans (((Below.refl _ _).alloc Nl (.cells #[.int .i64 no,.int .i64 t.1,.int .i64 t.2.1,.string s] 59)).mono BC.size);have L51:=Yy (S04.out.below BC S04.out.lt).load;have L52:=Yy (load_arr16 (I14.out.below BC I14.out.lt));have hbz:=build_zf HZ.out.1;have HFS:=fs_one' ((w4.alloc (.cells #[.int .i64 t.1,.int .i64 t.2.1] 33)).alloc (.cells #[.int .i64 t.1,.int .i64 t.2.1,.string s] 38)) ⟨no,⟨t.1,t.2.1,s⟩⟩;simp only[World.size_alloc]at HFS;have S25:=Yy (S24.out.below BF S24.out.lt);have B5:=Yy (B4.out.trans (BF.mono B4.out.size));clear BF;have HXV:RvAt (((w4.alloc (.cells #[.int .i64 t.1,.int .i64 t.2.1] 33)).alloc (.cells #[.int .i64 t.1,.int .i64 t.2.1,.string s] 38)).alloc (.cells #[.int .i64 no,.int .i64 t.1,.int .i64 t.2.1,.string s] 59)) ⟨wrec z no t s,some ⟨w4.heap.size+1+1,0,none⟩,1⟩:=⟨⟨HZ.out.1,HZ.out.2⟩,HFS⟩;have HW:=with_any b ⟨wrec z no t s,some ⟨w4.heap.size+1+1,0,none⟩,1⟩ _ (HLA.out _ B5.out) (H1.out.below B5.out Nl) HXV;unfold BJoinPost at HW;rw[HRR.out]at HW;have HW2:=Yy (show Calls Tryz.prog 66 #[.agg #[.slice b.A b.xs.length b.c],.agg (rcells z 0 0 (.slice (some ⟨w4.heap.size+1+1,0,none⟩) 1 1))] _ _ from HW);clear HFS BC HXV HW BS
       go_wp2_with (first | ((with_reducible refine YyL 24 (.tmp 5) ⟨w.heap.size,0,none⟩ L51.out ?_ ?_ ?_);rfl;rfl) | ((with_reducible refine YyL 31 (.tmp 6) ⟨(w.heap.size+1),0,none⟩ L52.out ?_ ?_ ?_);rfl;rfl) | ((with_reducible refine wpList_build_by (o:=⟨some 57,.build 36 #[(0,.tmp 52),(2,.tmp 56)],_,_,_,_⟩) ?_ 36 #[(0,.tmp 52),(2,.tmp 56)] ?_ #[(0,.agg (bvals z)),(2,.slice (some ⟨w4.heap.size+1+1,0,none⟩) 1 1)] ?_ _ (hbz _ _ _ _) ?_);rfl;rfl;(simp only[List.map_toArray,List.map_cons,List.map_nil];rfl)));refine HW2.out.mono ?_;rintro e w6 ⟨d,rfl,hd,hk,hb⟩;have HD:=Yy hd;have HK:=Yy hk;clear hd hk;have S26:=Yy (S25.out.below hb S25.out.lt);have B6:=Yy (B5.out.trans (hb.mono B5.out.size));clear hb;go_wp2_with (first | ((with_reducible refine wpList_store_oldb (o:=⟨none,.store 24 (.tmp 10) (.tmp 59),_,_,_,_⟩) ?_ (.tmp 10) (.tmp 59) ?_ (w.heap.size+1+1) _ S26.out ?_ (.slice d.A d.xs.length d.c) ?_ ?_ ?_);rfl;rfl;rfl;rfl;rfl;intro w2 hg2 hx2;have G9:=Yy hg2;have X9:=Yy hx2;clear hg2 hx2));refine bodyPost_ret (v:=.tuple #[.agg #[.slice d.A d.xs.length d.c],.int .i64 r.1]) ?_ rfl ?_
       ·exact res_bk2 Tryz.results32 rfl X9.out
       ·rw[HE.out];exact⟨d,rfl,HD.out,HK.out.kept_bo G9.out S26.out,B6.out.grown G9.out B6.out.size (fun k e=>by have:=Option.some.inj e;omega)⟩
      ·rw[if_neg t4]at HEE;have HE:=Yy HEE;clear HEE;go_enter Tryz.func32,Tryz.ntmps32;go_wp2_with (first | ((with_reducible refine YyL 24 (.tmp 5) ⟨w.heap.size,0,none⟩ LA.out ?_ ?_ ?_);rfl;rfl));refine HM.out.mono ?_;rintro e w1 ⟨rfl,hb⟩;have S01:=Yy (S0.out.below hb S0.out.lt);have S21:=Yy (S2.out.below hb S2.out.lt);have B1:=Yy (HB.out.trans (hb.mono HB.out.size));clear hb;go_wp2_with fail;refine (HR.out _).mono ?_;rintro e w2 ⟨rfl,hb⟩;have S02:=Yy (S01.out.below hb S01.out.lt);have S22:=Yy (S21.out.below hb S21.out.lt);have B2:=Yy (B1.out.trans (hb.mono B1.out.size));clear hb;have LB:=Yy S02.out.load;have HL:=Yy (blast_any b w2 (H1.out.below B2.out Nl));unfold st at HL;go_wp2_with (first | ((with_reducible refine YyL 24 (.tmp 5) ⟨w.heap.size,0,none⟩ LB.out ?_ ?_ ?_);rfl;rfl));refine HL.out.mono ?_;rintro e w3 ⟨rfl,hb⟩;have S23:=Yy (S22.out.below hb S22.out.lt);have B3:=Yy (B2.out.trans (hb.mono B2.out.size));clear hb;go_wp2_with fail;refine (HN.out _).mono ?_;rintro e w4 ⟨rfl,hb⟩;have S24:=Yy (S23.out.below hb S23.out.lt);have B4:=Yy (B3.out.trans (hb.mono B3.out.size));clear hb;have BS:=(Below.refl w4.heap.size w4).alloc Nl (.cells #[.int .i64 t.1,.int .i64 t.2.1] 33);have S25:=Yy (S24.out.below BS S24.out.lt);have B5:=Yy (B4.out.trans (BS.mono B4.out.size));clear BS
       go_wp2_with (first | ((with_reducible refine wpList_store_oldb (o:=⟨none,.store 24 (.tmp 10) (.tmp 46),_,_,_,_⟩) ?_ (.tmp 10) (.tmp 46) ?_ (w.heap.size+1+1) _ S25.out ?_ (.slice none 0 0) ?_ ?_ ?_);rfl;rfl;rfl;rfl;rfl;intro w2 hg2 hx2;have G9:=Yy hg2;have X9:=Yy hx2;clear hg2 hx2));refine bodyPost_ret (v:=.tuple #[.agg #[.slice none 0 0],.int .i64 t.2.2]) ?_ rfl ?_
       ·exact res_bk2 Tryz.results32 rfl X9.out
       ·rw[HE.out];exact⟨bk0,rfl,rfl,BkAt.zero _,B5.out.grown G9.out B5.out.size (fun k e=>by have:=Option.some.inj e;omega)⟩
end
section
open Go.RowKit WM
end
end
section
open WM
theorem sle_refl (a:Int×Int):sle a a:=by unfold sle;rw[st_no];omega
theorem bmay_one {r:Rc} (h:r.may=true):bmay [r]=true:=bmay_iff.2 ⟨by simp,fun x hx=>by rw[List.mem_singleton.1 hx];exact h,List.pairwise_singleton _ _⟩
theorem bjoin_one {rs:List Rc} (r:Rc) (h:Rise rs):bjoin rs [r]=bput rs r:=by
 refine bk_ext (bjoin_rise _ _) (bput_rise r h) fun z=>?_;rw[bat_bjoin h (List.pairwise_singleton _ _),bat_bput r z h,bat_cons,bat_nil];by_cases e:r.z=z
 ·rw[if_pos e,if_pos e,bmerge_bone]
 ·rw[if_neg e,if_neg e,bmerge_none]
theorem bput_lenF:∀ {bs:List Rc} {r x:Rc},Rise bs→bat bs r.z=some x→(bput bs r).length=bs.length
 | [],r,x,_,h=>by cases h
 | y::ys,r,x,hr,h=>by
  rw[bput];by_cases e:y.z=r.z
  ·rw[if_pos e];rfl
  ·rw[if_neg e];rw[bat_cons,if_neg e]at h;have hy:=List.pairwise_cons.1 hr;have hl:lessL r.z y.z=false:=by
    have hm:=bat_some h;have:=hy.1 x hm.1;rw[hm.2]at this;exact il_asym this
   rw[hl,if_neg (by simp),List.length_cons,List.length_cons,bput_lenF hy.2 h]
end
end Go.Proofs.YtnlhkpmgbpfjmaaGreatDoor
