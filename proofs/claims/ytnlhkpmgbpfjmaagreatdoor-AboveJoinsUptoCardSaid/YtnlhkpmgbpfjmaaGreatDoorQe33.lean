import Derived.Test.YtnlhkpmgbpfjmaaGreatDoorQe32
import Derived.Great.BuildSlice
/- What functions answer, part 33. -/
namespace Go.Proofs.YtnlhkpmgbpfjmaaGreatDoor
set_option linter.unusedVariables false
set_option linter.unusedSimpArgs false
set_option maxHeartbeats 16000000
set_option maxRecDepth 100000
section
open Go.RowKit WM
def KStr:Kind ByteArray:={ n:=1,pos:=by decide,cs:=fun s=>[.string s],d:=⟨#[]⟩,ok:=fun _ _=>True,len:=fun _=>rfl,one:=fun _ u hu=>by rw[List.mem_singleton.1 hu];rfl,below:=fun _ _=>trivial}
theorem infoStrK:(Tryz.prog.info? 9).map (fun i=>(i.zero,i.size,i.bytes))=some (some (.string ⟨#[]⟩),1,16):=by kernel_rfl
theorem infoDigK:(Tryz.prog.info? 26).map (fun i=>(i.zero,i.size,i.bytes))=some (some (KDig.v (List.replicate 32 0)),32,32):=by kernel_rfl
theorem sizeStrK (w:World):(sizeOf 9).run Tryz.prog w=.ok KStr.n w:=by
 obtain⟨i,hi,hz,hs,hb⟩:=info_parts infoStrK;have e:KStr.n=i.size:=hs.symm;rw[e];simp[sizeOf,typeInfo,hi,Sem.run_bind]
theorem sizeDigK (w:World):(sizeOf 26).run Tryz.prog w=.ok KDig.n w:=by
 obtain⟨i,hi,hz,hs,hb⟩:=info_parts infoDigK;have e:KDig.n=i.size:=hs.symm;rw[e];simp[sizeOf,typeInfo,hi,Sem.run_bind]
theorem zeroDigK (w:World):(zeroValue 26).run Tryz.prog w=.ok (KDig.v (List.replicate 32 0)) w:=by
 obtain⟨i,hi,hz,hs,hb⟩:=info_parts infoDigK;simp[zeroValue,typeInfo,hi,hz,Sem.run_bind]
theorem nDig:KDig.n≤1000:=by decide
theorem elemStrK:Tryz.prog.elem 88=9:=by kernel_rfl
theorem elemDigK:Tryz.prog.elem 89=26:=by kernel_rfl
theorem ix_strK (b off len cap i:Nat) (h:i<len) (I:Int) (e:I=i) (w:World):(Instr.indexAt 88 (.slice (some ⟨b,off,none⟩) len cap) (.int .i64 I)).run Tryz.prog w=.ok (.pointer (some ⟨b,off+i,none⟩)) w:=by
 have:=Kind.ix (K:=KStr) (P:=Tryz.prog) (ts:=88) (b:=b) (off:=off) (len:=len) (cap:=cap) (i:=i) (by rw[elemStrK];exact Tryz.underlying88) (fun w=>by rw[elemStrK];exact sizeStrK w) h I e w;rwa[show KStr.n=1 from rfl,Nat.mul_one]at this
theorem str_cell {w w9:World} {A:Option Addr} {c:Nat} {T:List ByteArray} (h:KStr.row w A c T) {b off:Nat} (hA:A=some ⟨b,off,none⟩) (hb:Below w.heap.size w w9) {i:Nat} (hi:i<T.length):w9.cell? ⟨b,off+i,none⟩=some (.string (T.getD i ⟨#[]⟩)):=by
 obtain⟨b',o',hA',hlt,hc⟩:=h.2.2.2.1 (by omega);rw[hA]at hA';cases hA';have h2:=hc i hi 0 (by decide);rw[show KStr.n=1 from rfl,Nat.mul_one,Nat.add_zero]at h2;exact (hb.cell (p:=⟨b,off+i,none⟩) hlt).trans h2
theorem ix_digK (b off len cap i:Nat) (h:i<len) (I:Int) (e:I=i) (w:World):(Instr.indexAt 89 (.slice (some ⟨b,off,none⟩) len cap) (.int .i64 I)).run Tryz.prog w=.ok (.pointer (some ⟨b,off+i*32,none⟩)) w:=
 Kind.ix (K:=KDig) (by rw[elemDigK];exact Tryz.underlying89) (fun w=>by rw[elemDigK];exact sizeDigK w) h I e w
theorem wpList_bsliceStr {ops:Array Oper} {rest:List Oper} {o:Oper} {a:Act} {w:World} {Q:Exit→Act→World→Prop} (hgd:o.guard=none) (y:Operand) (hop:o.op=.buildSlice 88 1 #[(0,y)]) (s:ByteArray) (hy:a.eval y=.string s)
  (h:wpList Tryz.prog ops Q rest (a.put o.dst (.slice (some ⟨w.heap.size,0,none⟩) 1 1)) (w.alloc (.cells (KStr.cs s).toArray 9))):wpList Tryz.prog ops Q (o::rest) a w:=by
 obtain⟨i,hi,hz,hs,hb⟩:=info_parts infoStrK;refine wpList_buildSlice hgd 88 9 1 #[(0,y)] hop (KStr.cs s).toArray i (.string ⟨#[]⟩) Tryz.underlying88 hi hz (by omega) (by omega) ?_ h;rw[hs];simp only[List.map_toArray,List.map_cons,List.map_nil,hy];exact fill_whole (n:=1) (v:=.string s) rfl (by simp)
def txF (fs:List Fld):List ByteArray:=fs.map (·.c.s)
def txB (xs:List RcA):List ByteArray:=xs.flatMap fun x=>txF x.R.fs
def dgT (s:ByteArray):List Int:=SH.sum (nums s)
def str0:ByteArray:=⟨#[]⟩
theorem txF_len:∀ fs:List Fld,(txF fs).length≤flB fs
 | []=>Nat.le_refl _
 | f::fs=>by
  have:=txF_len fs;simp only[txF,flB,List.map_cons,List.length_cons,List.sum_cons]at *;omega
theorem txF_mem {s:ByteArray}:∀ {fs:List Fld},s∈txF fs→s.size≤flB fs
 | [],h=>by cases h
 | f::fs,h=>by
  simp only[txF,flB,List.map_cons,List.sum_cons,List.mem_cons]at h ⊢;rcases h with rfl | h
  ·omega
  ·have:=txF_mem (fs:=fs) h;unfold flB at this;omega
theorem txB_len:∀ xs:List RcA,(txB xs).length≤bkB xs
 | []=>Nat.le_refl _
 | x::xs=>by
  have h1:=txB_len xs;have h2:=txF_len x.R.fs;simp only[txB,bkB,List.map_cons,List.flatMap_cons,List.length_append,List.sum_cons]at *;omega
theorem txB_mem {s:ByteArray}:∀ {xs:List RcA},s∈txB xs→s.size≤bkB xs
 | [],h=>by cases h
 | x::xs,h=>by
  simp only[txB,List.flatMap_cons,List.mem_append]at h;have e:bkB (x::xs)=flB x.R.fs+bkB xs:=by simp[bkB]
  rw[e];rcases h with h | h
  ·have:=txF_mem h;omega
  ·have:=txB_mem (xs:=xs) h;omega
theorem txB_take {xs:List RcA} {k:Nat} (hk:k<xs.length):txB (xs.take (k+1))=txB (xs.take k)++txF (xs.getD k rcA0).R.fs:=by
 unfold txB;rw[List.take_succ_eq_append_getElem hk,List.getD_eq_getElem?_getD,List.getElem?_eq_getElem hk,List.flatMap_append,List.flatMap_singleton]
 rfl
theorem txF_take {fs:List Fld} {k:Nat} (hk:k<fs.length):txF (fs.take (k+1))=txF (fs.take k)++[(fs.getD k fld0).c.s]:=by
 unfold txF;rw[List.take_succ_eq_append_getElem hk,List.getD_eq_getElem?_getD,List.getElem?_eq_getElem hk,List.map_append]
 rfl
theorem txF_cnt (fs:List Fld) (k:Nat):(txF (fs.take k)).length≤k:=by
 unfold txF;rw[List.length_map,List.length_take];omega
theorem txB_cnt (xs:List RcA) (k:Nat):(txB (xs.take k)).length≤bkB xs:=by
 refine Nat.le_trans ?_ (txB_len xs);have h:txB xs=txB (xs.take k)++txB (xs.drop k):=by
  unfold txB;rw[← List.flatMap_append,List.take_append_drop]
 rw[h,List.length_append];omega
theorem txB_sub {xs:List RcA} {k:Nat} (hk:k<xs.length):(txB (xs.take k)).length+(xs.getD k rcA0).R.fs.length≤bkB xs:=by
 have h:=txB_cnt xs (k+1);rw[txB_take hk,List.length_append]at h;unfold txF at h;rw[List.length_map]at h;exact h
def offP (T:List ByteArray) (p q:Nat):Prop:=T.getD p str0=T.getD q str0∨dgT (T.getD p str0)≠dgT (T.getD q str0)
def offAll (T:List ByteArray) (n:Nat):Prop:=∀ p,p<n→∀ q,q<p→offP T p q
theorem offAll_zero (T:List ByteArray):offAll T 0:=fun p h=>absurd h (Nat.not_lt_zero _)
theorem offAll_succ {T:List ByteArray} {n:Nat} (h:offAll T n) (hn:∀ q,q<n→offP T n q):offAll T (n+1):=fun p hp=>by
 rcases Nat.lt_or_ge p n with h1 | h1
 ·exact h p h1
 ·obtain rfl:p=n:=by omega
  exact hn
theorem off_mem {T:List ByteArray} (h:offAll T T.length) {s t:ByteArray} (hs:s∈T) (ht:t∈T) (e:dgT s=dgT t):s=t:=by
 obtain⟨i,hi,rfl⟩:=List.getElem_of_mem hs;obtain⟨j,hj,rfl⟩:=List.getElem_of_mem ht;have gi:T.getD i str0=T[i]:=by rw[List.getD_eq_getElem?_getD,List.getElem?_eq_getElem hi];rfl
 have gj:T.getD j str0=T[j]:=by rw[List.getD_eq_getElem?_getD,List.getElem?_eq_getElem hj];rfl
 rcases Nat.lt_trichotomy i j with h1 | h1 | h1
 ·have:=h j hj i h1;unfold offP at this;rw[gi,gj]at this;rcases this with h2 | h2
  ·exact h2.symm
  ·exact absurd e.symm h2
 ·subst h1;rfl
 ·have:=h i hi j h1;unfold offP at this;rw[gi,gj]at this;rcases this with h2 | h2
  ·exact h2
  ·exact absurd e h2
theorem at_txB {xs:List RcA} {R:Rc} (hR:R∈xs.map (·.R)) {k:Nat} {c:Cel} (hc:R.at k=some c):c.s∈txB xs:=by
 obtain⟨x,hx,rfl⟩:=List.mem_map.1 hR;obtain⟨f,hf,_,rfl⟩:=rfind_mem hc;exact List.mem_flatMap.2 ⟨x,hx,List.mem_map_of_mem hf⟩
theorem noAl_of {xs ys:List RcA} (h:offAll (txB xs++txB ys) (txB xs++txB ys).length):NoAl (xs.map (·.R)) (ys.map (·.R)):=by
 intro R hR x hx _ k e c he hc hd;exact off_mem h (List.mem_append_right _ (at_txB hx he)) (List.mem_append_left _ (at_txB hR hc)) hd
end
section
open Go.RowKit WM
def AlikePost (X Y:List Rc) (w:World) (e:Ending) (w':World):Prop:=∃ v:Bool,e=.returned (.bool v)∧Below w.heap.size w w'∧(v=false→NoAl X Y)
theorem guardDigL:Tryz.prog.eqGuardType Tryz.prog.depth 26=false:=by kernel_rfl
structure AlW (w:World) (a b:Value) (X:World):Prop where
 b0:BoAt X w.heap.size a
 b1:BoAt X (w.heap.size+1) b
 h:Below w.heap.size w X
theorem AlW.grown {w X X':World} {a b v:Value} {n k:Nat} {te:TypeId} {l:List Value} (h:AlW w a b X) (ho:X.ownsRow (w.heap.size+2) te n v k l) (hg:X.grownBy X' v.ownBlock):AlW w a b X':=by
 have hb:=fun g (e:v.ownBlock=some g)=>own_base ho e;exact⟨h.b0.same (hg.block _ h.b0.lt (fun e=>by have:=hb _ e.symm;omega)),h.b1.same (hg.block _ h.b1.lt (fun e=>by have:=hb _ e.symm;omega)),h.h.grown hg h.h.size (fun g e=>by have:=hb g e;omega)⟩
theorem AlW.old {w X:World} {a b:Value} (h:AlW w a b X) (o:Obj):AlW w a b (X.alloc o):=⟨h.b0.old o,h.b1.old o,h.h.alloc h.h.size o⟩
theorem Tta43 {p:Prop} (h:p:=by
  go_roundw
  case rel=>exact⟨m+1,by omega,by go_num,by rw[HN.out,List.length_append];exact O3.out,A3.out⟩
  case measure=>simp[intOf];omega
 ):p:=h
theorem Tta19 {p:Prop} (h:p:=by
  obtain rfl:m=x.R.fs.length:=by omega
  rw[List.take_of_length_le Nl,← HT1.out]at ho;have O9:=Yy ho;have A9:=Yy hAW;clear h1 h3 h4 ho hAW;go_wp2;go_roundw
  case rel=>exact⟨k+1,by have:=HLT.out;omega,by go_num,O9.out,A9.out⟩
  case measure=>have:=HLT.out;simp[intOf];omega
 ):p:=h
theorem alike_any (a b:Bk) (w:World) (hlaid:Laid w) (ha:BkAt w a) (hb:BkAt w b) (hA:bkB a.xs≤1048576) (hB:bkB b.xs≤1048576):
  Calls Tryz.prog 23 #[.agg #[.slice a.A a.xs.length a.c],.agg #[.slice b.A b.xs.length b.c]] w (AlikePost a.rs b.rs w):=by
 obtain⟨xs,A,c⟩:=a;obtain⟨ys,A2,c2⟩:=b;dsimp only at ha hb hA hB ⊢;have HLAID:=Yy hlaid;have HBA:=Yy hA;have HBB:=Yy hB;have S0:=(BoAt.new w (.slice A xs.length c)).old (.cells #[.slice A2 ys.length c2] 24);have S1:=BoAt.new (w.alloc (.cells #[.slice A xs.length c] 24)) (.slice A2 ys.length c2);rw[World.size_alloc]at S1;have A0:=Yy (AlW.mk S0 S1 (((Below.refl w.heap.size w).alloc Nl (.cells #[.slice A xs.length c] 24)).alloc (by simp) (.cells #[.slice A2 ys.length c2] 24)));have HRX:=Yy (fun i (hi:i<xs.length)=>RsAt.rv ha hi);have HRY:=Yy (fun i (hi:i<ys.length)=>RsAt.rv hb hi);obtain⟨hx1,hx2,hx3,hx4,_⟩:=ha;obtain⟨hy1,hy2,hy3,hy4,_⟩:=hb;dsimp only at hx1 hx2 hx3 hx4 hy1 hy2 hy3 hy4 HRX HRY;simp only[maxLen]at hx2 hy2;have HCX:=Yy hx4;have HCY:=Yy hy4;clear hx4 hy4 hx3 hy3 S0 S1 hA hB hlaid;have HPL:Hid (([]:List ByteArray).length+bkB xs≤1048576):=Yy (by have:=HBA.out;simp;omega);go_enter Tryz.func23,Tryz.ntmps23;go_wp2;go_loopw [5,6] (fun v i wr=>∃ k:Nat,k≤xs.length∧i=.int .i64 k∧wr.ownsRow (w.heap.size+2) 9 KStr.n v ([]++txB (xs.take k)).length (([]++txB (xs.take k)).flatMap KStr.cs)∧AlW w (.slice A xs.length c) (.slice A2 ys.length c2) wr) (fun _ i _=>xs.length - (intOf i).toNat)
 case atStart=>exact⟨0,Nat.zero_le _,rfl,by simpa [txB] using World.ownsRow_nil _ _ _ _,A0.out⟩
 case round=>
  obtain⟨k,hk,rfl,ho,hAW⟩:=hrel;have d0:=hAW.b0.c0;by_cases hlt:k<xs.length
  ·have t1:(k:Int)<(xs.length:Int):=by omega
   have HST:=Yy (txB_take hlt);have HSB:=Yy (txB_sub hlt);have HXF:=Yy (HRX.out k hlt).2;obtain⟨b0,off,hA,hbB,hcc⟩:=HCX.out (by omega);have HCC:=Yy (hcc k hlt);have HIX:=Yy (ix_rec b0 off xs.length c k hlt k rfl);rw[← hA]at HIX;generalize xs.getD k rcA0=x at *;generalize off+k*19=ox at *;have HK0:=Yy hk;have HO:=Yy ho;have HAW:=Yy hAW;have HLT:=Yy hlt;clear hA hcc ho hAW hk;obtain⟨T0,hT0⟩:∃ T,T=[]++txB (xs.take k):=⟨_,rfl⟩;rw[← hT0]at HO;have HT1:Hid ([]++txB (xs.take (k+1))=T0++txF x.R.fs):=Yy (by rw[HST.out,← List.append_assoc,← hT0]);have HTC:Hid (T0.length+x.R.fs.length≤2097152):=Yy (by have:=HSB.out;have:=HBA.out;have:=HBB.out;have:=HPL.out;rw[hT0,List.length_append];omega);clear hT0;go_wp2;go_loopw [5,7] (fun v j wr=>∃ m:Nat,m≤x.R.fs.length∧j=.int .i64 m∧wr.ownsRow (w.heap.size+2) 9 KStr.n v (T0++txF (x.R.fs.take m)).length ((T0++txF (x.R.fs.take m)).flatMap KStr.cs)∧AlW w (.slice A xs.length c) (.slice A2 ys.length c2) wr) (fun _ j _=>x.R.fs.length - (intOf j).toNat)
   case atStart=>exact⟨0,Nat.zero_le _,rfl,by simpa [txF] using HO.out,HAW.out⟩
   case round=>
    obtain⟨m,hm,rfl,ho,hAW⟩:=hrel;clear d0;have e0:=hAW.b0.c0;have rx:=HCC.out.same (hAW.h.block b0 hbB);have e18:=rx.c18;have IX:=HIX.out;clear rx;obtain⟨h1,h2,h3,h4⟩:=HXF.out;have hl19:x.R.fs.length≤x.c:=h1;simp only[maxLen]at h2;by_cases hmt:m<x.R.fs.length
    ·have t2:(m:Int)<(x.R.fs.length:Int):=by omega
     obtain⟨b1,of1,hA1,hb1,hc1⟩:=h4 (by omega);have g3:=(hc1 m hmt).2.2.2;have g3:=(hAW.h.cell (p:=⟨b1,of1+m*4+3,none⟩) hb1).trans g3;have IF:=ix_fld b1 of1 x.R.fs.length x.c m hmt m rfl;rw[← hA1]at IF;have HFT:=Yy (txF_take hmt);generalize x.R.fs.getD m fld0=f at *;generalize of1+m*4=og at *;have HN:Hid (T0++txF (x.R.fs.take (m+1))=(T0++txF (x.R.fs.take m))++[f.c.s]):=Yy (by rw[HFT.out,List.append_assoc]);have HCN:Hid ((T0++txF (x.R.fs.take m)).length≤2097152):=Yy (by rw[List.length_append];have:=txF_cnt x.R.fs m;have:=HTC.out;omega);generalize T0++txF (x.R.fs.take m)=T at *;have O1:=Yy (ho.alloc (.cells (KStr.cs f.c.s).toArray 9));have A1:=Yy (hAW.old (.cells (KStr.cs f.c.s).toArray 9));have R1:=Yy (Kind.row_one (K:=KStr) (w:=wr) (x:=f.c.s) (t:=9) trivial);have LF:Hid (T.length+1≤10000000):=Yy (by have:=HCN.out;omega);have BS:Hid (w.heap.size+2≤(wr.alloc (.cells (KStr.cs f.c.s).toArray 9)).heap.size):=Yy (by have:=hAW.b1.lt;rw[World.size_alloc];omega);clear h1 h3 h4 hc1 hA1 ho hAW HCN HFT;obtain⟨i0,hi,hz0,hz1,hz2⟩:=info_parts infoStrK
     go_wp2_with (first | ((with_reducible refine wpList_bsliceStr (o:=⟨some 43,.buildSlice 88 1 #[(0,.tmp 42)],_,_,_,_⟩) ?_ (.tmp 42) ?_ f.c.s ?_ ?_);rfl;rfl;rfl) | (at_builtin;refine wpList_append_K (K:=KStr) _ rfl _ _ 88 rfl (w.heap.size+2) 9 i0 _ 16 Tryz.underlying88 hi hz0 hz1 hz2 rfl (by omega) _ T.length T rfl O1.out (some ⟨wr.heap.size,0,none⟩) 1 1 [f.c.s] rfl R1.out rfl LF.out BS.out ?_;intro v3 w3 ho3 hg3;have O3:=Yy ho3;have A3:=Yy (A1.out.grown O1.out hg3);clear ho3 hg3));exact Tta43
    ·exact Tta19
  ·obtain rfl:k=xs.length:=by omega
   rw[List.take_of_length_le Nl]at ho;have O5:=Yy ho;have A5:=Yy hAW;rw[List.nil_append]at O5;have HPL:=Yy (show (txB xs).length+bkB ys≤2097152 by have:=txB_len xs;have:=HBA.out;have:=HBB.out;omega);clear ho hAW;go_wp2;clear d0;go_loopw [5,8] (fun v i wr=>∃ k:Nat,k≤ys.length∧i=.int .i64 k∧wr.ownsRow (w.heap.size+2) 9 KStr.n v (txB xs++txB (ys.take k)).length ((txB xs++txB (ys.take k)).flatMap KStr.cs)∧AlW w (.slice A xs.length c) (.slice A2 ys.length c2) wr) (fun _ i _=>ys.length - (intOf i).toNat)
   case atStart=>exact⟨0,Nat.zero_le _,rfl,by simpa [txB] using O5.out,A5.out⟩
   case round=>
    obtain⟨k,hk,rfl,ho,hAW⟩:=hrel;have d0:=hAW.b1.c0;by_cases hlt:k<ys.length
    ·have t1:(k:Int)<(ys.length:Int):=by omega
     have HST:=Yy (txB_take hlt);have HSB:=Yy (txB_sub hlt);have HXF:=Yy (HRY.out k hlt).2;obtain⟨b0,off,hA,hbB,hcc⟩:=HCY.out (by omega);have HCC:=Yy (hcc k hlt);have HIX:=Yy (ix_rec b0 off ys.length c2 k hlt k rfl);rw[← hA]at HIX;generalize ys.getD k rcA0=x at *;generalize off+k*19=ox at *;have HK0:=Yy hk;have HO:=Yy ho;have HAW:=Yy hAW;have HLT:=Yy hlt;clear hA hcc ho hAW hk;obtain⟨T0,hT0⟩:∃ T,T=txB xs++txB (ys.take k):=⟨_,rfl⟩;rw[← hT0]at HO;have HT1:Hid (txB xs++txB (ys.take (k+1))=T0++txF x.R.fs):=Yy (by rw[HST.out,← List.append_assoc,← hT0]);have HTC:Hid (T0.length+x.R.fs.length≤2097152):=Yy (by have:=HSB.out;have:=HBA.out;have:=HBB.out;have:=HPL.out;rw[hT0,List.length_append];omega);clear hT0;go_wp2;go_loopw [5,9] (fun v j wr=>∃ m:Nat,m≤x.R.fs.length∧j=.int .i64 m∧wr.ownsRow (w.heap.size+2) 9 KStr.n v (T0++txF (x.R.fs.take m)).length ((T0++txF (x.R.fs.take m)).flatMap KStr.cs)∧AlW w (.slice A xs.length c) (.slice A2 ys.length c2) wr) (fun _ j _=>x.R.fs.length - (intOf j).toNat)
     case atStart=>exact⟨0,Nat.zero_le _,rfl,by simpa [txF] using HO.out,HAW.out⟩
     case round=>
      obtain⟨m,hm,rfl,ho,hAW⟩:=hrel;clear d0;have e0:=hAW.b1.c0;have rx:=HCC.out.same (hAW.h.block b0 hbB);have e18:=rx.c18;have IX:=HIX.out;clear rx;obtain⟨h1,h2,h3,h4⟩:=HXF.out;have hl19:x.R.fs.length≤x.c:=h1;simp only[maxLen]at h2;by_cases hmt:m<x.R.fs.length
      ·have t2:(m:Int)<(x.R.fs.length:Int):=by omega
       obtain⟨b1,of1,hA1,hb1,hc1⟩:=h4 (by omega);have g3:=(hc1 m hmt).2.2.2;have g3:=(hAW.h.cell (p:=⟨b1,of1+m*4+3,none⟩) hb1).trans g3;have IF:=ix_fld b1 of1 x.R.fs.length x.c m hmt m rfl;rw[← hA1]at IF;have HFT:=Yy (txF_take hmt);generalize x.R.fs.getD m fld0=f at *;generalize of1+m*4=og at *;have HN:Hid (T0++txF (x.R.fs.take (m+1))=(T0++txF (x.R.fs.take m))++[f.c.s]):=Yy (by rw[HFT.out,List.append_assoc]);have HCN:Hid ((T0++txF (x.R.fs.take m)).length≤2097152):=Yy (by rw[List.length_append];have:=txF_cnt x.R.fs m;have:=HTC.out;omega);generalize T0++txF (x.R.fs.take m)=T at *;have O1:=Yy (ho.alloc (.cells (KStr.cs f.c.s).toArray 9));have A1:=Yy (hAW.old (.cells (KStr.cs f.c.s).toArray 9));have R1:=Yy (Kind.row_one (K:=KStr) (w:=wr) (x:=f.c.s) (t:=9) trivial);have LF:Hid (T.length+1≤10000000):=Yy (by have:=HCN.out;omega);have BS:Hid (w.heap.size+2≤(wr.alloc (.cells (KStr.cs f.c.s).toArray 9)).heap.size):=Yy (by have:=hAW.b1.lt;rw[World.size_alloc];omega);clear h1 h3 h4 hc1 hA1 ho hAW HCN HFT;obtain⟨i0,hi,hz0,hz1,hz2⟩:=info_parts infoStrK
       go_wp2_with (first | ((with_reducible refine wpList_bsliceStr (o:=⟨some 75,.buildSlice 88 1 #[(0,.tmp 74)],_,_,_,_⟩) ?_ (.tmp 74) ?_ f.c.s ?_ ?_);rfl;rfl;rfl) | (at_builtin;refine wpList_append_K (K:=KStr) _ rfl _ _ 88 rfl (w.heap.size+2) 9 i0 _ 16 Tryz.underlying88 hi hz0 hz1 hz2 rfl (by omega) _ T.length T rfl O1.out (some ⟨wr.heap.size,0,none⟩) 1 1 [f.c.s] rfl R1.out rfl LF.out BS.out ?_;intro v3 w3 ho3 hg3;have O3:=Yy ho3;have A3:=Yy (A1.out.grown O1.out hg3);clear ho3 hg3));exact Tta43
      ·exact Tta19
    ·obtain rfl:k=ys.length:=by omega
     rw[List.take_of_length_le Nl]at ho;generalize wr=w2r at *;obtain⟨T,hT⟩:∃ T,T=txB xs++txB ys:=⟨_,rfl⟩;rw[← hT]at ho;have HNL:Hid (offAll T T.length→NoAl (xs.map (·.R)) (ys.map (·.R))):=Yy (fun h=>noAl_of (by rw[← hT];exact h));have HSZ:Hid (∀ s∈T,s.size≤1048576):=Yy (fun s hs=>by rw[hT]at hs;exact (List.mem_append.1 hs).elim (fun h=>Nat.le_trans (txB_mem h) HBA.out) (fun h=>Nat.le_trans (txB_mem h) HBB.out));have HTL:Hid (T.length≤2097152):=Yy (by rw[hT,List.length_append];have:=txB_len ys;have:=HPL.out;omega);obtain⟨A3,c3,rfl⟩:=own_slice ho;have HRT:=Yy (Kind.row_own (K:=KStr) ho (fun _ _=>trivial));have HBW:=Yy hAW.h;have HL5:=Yy (fun (X:World) (hX:Below w2r.heap.size w2r X)=>(HLAID.out.below hAW.h Nl).below hX Nl);have HB5:=Yy (fun (X:World) (hX:Below w2r.heap.size w2r X)=>hAW.h.trans (hX.mono hAW.h.size));clear hT;clear ho hAW;obtain⟨n,hn⟩:∃ n,n=T.length:=⟨_,rfl⟩;have HNN:=Yy hn;have hnb:=HTL.out;rw[← hn]at hnb;rw[← hn];clear hn;go_wp2;go_loopw [10,11] (fun v i wr=>∃ k:Nat,k≤n∧i=.int .i64 k∧wr.ownsRow w2r.heap.size 26 KDig.n v k (((T.take k).map dgT).flatMap KDig.cs)∧Below w2r.heap.size w2r wr∧offAll T k) (fun _ i _=>n - (intOf i).toNat)
     case atStart=>exact⟨0,Nat.zero_le _,rfl,World.ownsRow_nil _ _ _ _,Below.refl _ _,offAll_zero T⟩
     case round=>
      obtain⟨k,hk,rfl,ho,hb,hoff⟩:=hrel;by_cases hlt:k<n
      ·have t1:(k:Int)<(n:Int):=by omega
       have hlT:k<T.length:=by rw[← HNN.out];exact hlt
       obtain⟨b3,o3,hA3,hb3,hc3⟩:=HRT.out.2.2.2.1 (by omega);have hle:=HRT.out.1;rw[← HNN.out]at hle;have hcc:=HRT.out.2.1;simp only[maxLen]at hcc;have HIS:=Yy (fun i (hi:i<n) (w9:World)=>ix_strK b3 o3 n c3 i hi i rfl w9);rw[← hA3]at HIS;have HES:=Yy (fun i (hi:i<n) (X:World) (hX:Below w2r.heap.size w2r X)=>(show X.cell? ⟨b3,o3+i,none⟩=some (.string (T.getD i str0)) from str_cell HRT.out hA3 hX (by rw[← HNN.out];exact hi)));have HSS:=Yy (HSZ.out (T.getD k str0) (by rw[List.getD_eq_getElem?_getD,List.getElem?_eq_getElem hlT];exact List.getElem_mem _));have HTK:Hid ((T.take (k+1)).map dgT=(T.take k).map dgT++[dgT (T.getD k str0)]):=Yy (by rw[List.take_succ_eq_append_getElem hlT,List.map_append,List.getD_eq_getElem?_getD,List.getElem?_eq_getElem hlT];rfl);have HLK:Hid (((T.take k).map dgT).length=k):=Yy (by rw[List.length_map,List.length_take];omega);have e3:=HES.out k hlt wr hb;have IS:=HIS.out k hlt;have HO:=Yy ho;have HB:=Yy hb;have HOF:=Yy hoff;obtain⟨s,hs⟩:∃ s,s=T.getD k str0:=⟨_,rfl⟩;rw[← hs]at HSS HTK e3;have HC:=Yy (of_any s wr (HL5.out wr hb) (by have:=HSS.out;omega));have HDL:Hid ((dgT s).length=32∧AllBytes (dgT s)):=Yy ⟨SH.sum_len _,SH.sum_bytes _⟩;have HSK:=Yy hs;clear ho hb hoff hlT hs hA3 hc3;go_wp2_with fail;refine HC.out.mono ?_;rintro e w4 ⟨rfl,hb4⟩;have hdg:SH.sum (nums s)=dgT s:=rfl;rw[hdg];clear hdg e3;have B4:=Yy (HB.out.trans (hb4.mono HB.out.size));have O4:=Yy ((own_below HO.out hb4).alloc (.cells (KDig.cs (dgT s)).toArray 26))
       have B5:=Yy (B4.out.alloc B4.out.size (.cells (KDig.cs (dgT s)).toArray 26));have R5:=Yy (Kind.row_one (K:=KDig) (w:=w4) (x:=dgT s) (t:=26) HDL.out);have VL:Hid (k+1≤10000000):=Yy (by omega);have VS:=Yy B5.out.size;have XL:=Yy (show (KDig.cs (dgT s)).length=KDig.n from (List.length_map _).trans HDL.out.1);clear hb4;obtain⟨i0,hi,hz0,hz1,hz2⟩:=info_parts infoDigK;have hzl:(KDig.v (List.replicate 32 0)).cells.size=KDig.n:=by decide
       go_wp2_with (first | ((with_reducible refine wpList_bsliceK (K:=KDig) (o:=⟨some 89,.buildSlice 89 1 #[(0,.tmp 88)],_,_,_,_⟩) ?_ (.tmp 88) ?_ (dgT s) ?_ XL.out Tryz.underlying89 sizeDigK zeroDigK nDig ?_);rfl;rfl;rfl) | (at_builtin;refine wpList_append_K (K:=KDig) _ rfl _ _ 89 rfl w2r.heap.size 26 i0 _ 32 Tryz.underlying89 hi hz0 hz1 hz2 hzl (by omega) _ k ((T.take k).map dgT) rfl O4.out (some ⟨w4.heap.size,0,none⟩) 1 1 [dgT s] rfl R5.out rfl VL.out VS.out ?_;intro v3 w5 ho3 hg3;have O5:=Yy ho3;have B6:=Yy (B5.out.grown hg3 B5.out.size (fun g hg=>own_base O4.out hg));obtain⟨g13,cap13,rfl⟩:=ownsRow_succ ho3;clear ho3 hg3));have HRD:Hid (KDig.row w5 (some ⟨g13,0,none⟩) cap13 ((T.take (k+1)).map dgT)):=Yy (by
        have e:((T.take (k+1)).map dgT).length=k+1:=by rw[HTK.out,List.length_append,HLK.out];rfl
        have o:=O5.out;rw[← HTK.out]at o;have hz:∀ z∈(T.take (k+1)).map dgT,z.length=32∧AllBytes z:=fun z hz=>by obtain⟨u,_,rfl⟩:=List.mem_map.1 hz;exact⟨SH.sum_len _,SH.sum_bytes _⟩
        generalize (T.take (k+1)).map dgT=Lz at hz e o ⊢;rw[← e]at o;exact Kind.row_own (K:=KDig) o hz)
       have HLD:=Yy (fun i (hi:i<k+1) (X:World) (hX:Below w5.heap.size w5 X)=>(show (loadVar 26 ⟨g13,i*32,none⟩).run Tryz.prog X=.ok (.agg (bvals (dgT (T.getD i str0)))) X from by
        obtain⟨bq,oq,hq,hbq,hcq⟩:=HRD.out.2.2.2.1 (by rw[HTK.out,List.length_append,HLK.out];simp);obtain⟨rfl,rfl⟩:g13=bq∧0=oq:=by cases hq;exact⟨rfl,rfl⟩
        have hl2:i<((T.take (k+1)).map dgT).length:=by rw[HTK.out,List.length_append,HLK.out];simp;omega
        have h2:=hcq i hl2;rw[Nat.zero_add]at h2;have hl3:i<T.length:=by rw[List.length_map,List.length_take]at hl2;omega
        have h3:((T.take (k+1)).map dgT).getD i KDig.d=dgT (T.getD i str0):=by
         rw[List.getD_eq_getElem?_getD,List.getElem?_eq_getElem hl2,List.getElem_map,List.getElem_take,List.getD_eq_getElem?_getD,List.getElem?_eq_getElem hl3];rfl
        rw[h3]at h2;exact load_dig (Kind.at_same h2 (hX.block _ hbq)) (SH.sum_len _)))
       have HID:=Yy (fun i (hi:i<k+1) (w9:World)=>ix_digK g13 0 (k+1) cap13 i hi i rfl w9);have HES5:=Yy (fun i (hi:i<n) (X:World) (hX:Below w5.heap.size w5 X)=>HES.out i hi X (B6.out.trans (hX.mono B6.out.size)));have HK1:=Yy hlt;clear IS hi hz0 hz1 hz2 hzl;go_loopw [12] (fun j wr=>∃ m:Nat,m≤k∧j=.int .i64 m∧Below w5.heap.size w5 wr∧∀ q,q<m→offP T k q) (fun j _=>k - (intOf j).toNat)
       case atStart=>exact⟨0,Nat.zero_le _,rfl,Below.refl _ _,fun q hq=>absurd hq (Nat.not_lt_zero _)⟩
       case round=>
        obtain⟨m,hm,rfl,hb6,hofm⟩:=hrel;by_cases hmk:m<k
        ·have t2:(m:Int)<(k:Int):=by omega
         have IS1:=Yy (HIS.out k HK1.out);have IS2:=Yy (HIS.out m (by have:=HK1.out;omega));have ID1:=Yy (HID.out k (by omega));have ID2:=Yy (HID.out m (by omega));have ES1:=Yy (fun X (hX:Below wr.heap.size wr X)=>HES5.out k HK1.out X (hb6.trans (hX.mono hb6.size)));have ES2:=Yy (fun X (hX:Below wr.heap.size wr X)=>HES5.out m (by have:=HK1.out;omega) X (hb6.trans (hX.mono hb6.size)));have LD1:=Yy (fun X (hX:Below wr.heap.size wr X)=>HLD.out k (by omega) X (hb6.trans (hX.mono hb6.size)));have LD2:=Yy (fun X (hX:Below wr.heap.size wr X)=>HLD.out m (by omega) X (hb6.trans (hX.mono hb6.size)));obtain⟨t,ht⟩:∃ t,t=T.getD m str0:=⟨_,rfl⟩;rw[← HSK.out]at ES1 LD1;rw[← ht]at ES2 LD2;have HOM:Hid (∀ q,q<m→offP T k q):=Yy hofm;have HB7:=Yy hb6;have HMK:=Yy hmk;have QD:=Yy (fun w9=>eq_dig (SH.sum_bytes (nums s)) (SH.sum_bytes (nums t)) (SH.sum_len _) (SH.sum_len _) w9);have HPO:Hid (s=t∨dgT s≠dgT t→∀ q,q<m+1→offP T k q):=Yy (fun h q hq=>by
          rcases Nat.lt_or_ge q m with h1 | h1
          ·exact HOM.out q h1
          ·obtain rfl:q=m:=by omega
           unfold offP;rw[← HSK.out,← ht];exact h)
         clear hofm hb6 ht;by_cases hst:s=t
         ·have NE:Hid ((s.toList == t.toList)=true):=Yy ((str_beq _ _).2 hst);have HH:=Yy hst;clear hst;go_wp2_with fail;refine wp_region_G _ (by kernel_rfl) ?_;refine YGa 0 (some 96) rfl ?_;refine YGa 1 (some 97) rfl ?_;refine YGb 2 (some 98) rfl (fun w9 hSw=>IS1.out w9) ?_;refine YGb 3 (some 99) rfl (fun w9 hSw=>ES1.out w9 hSw) ?_;refine YGa 4 (some 100) rfl ?_;refine YGa 5 (some 101) rfl ?_;refine YGb 6 (some 102) rfl (fun w9 hSw=>IS2.out w9) ?_;refine YGb 7 (some 103) rfl (fun w9 hSw=>ES2.out w9 hSw) ?_;refine YGd 8 (some 104) (.bool false) rfl (fun w9 hSw=>by have q9:=NE.out;go_simp;try with_reducible rfl) ?_;refine YGa 9 (some 105) rfl ?_;refine YGo 10 (some 106) rfl ?_;refine YGo 11 (some 107) rfl ?_;refine YGo 12 (some 108) rfl ?_;refine YGo 13 (some 109) rfl ?_;refine YGo 14 (some 110) rfl ?_;refine YGo 15 (some 111) rfl ?_;refine YGo 16 (some 112) rfl ?_;refine YGo 17 (some 113) rfl ?_;refine YGo 18 (some 114) rfl ?_;refine YGa 19 (some 115) rfl ?_;refine wpG_done (by kernel_rfl) ?_ _;intro w9 hSw _;have B9:=Yy (HB7.out.trans (hSw.mono HB7.out.size));clear hSw;go_wp2;go_roundw
          case rel=>exact⟨m+1,by have:=HMK.out;omega,by go_num,B9.out,HPO.out (by exact .inl HH.out)⟩
          case measure=>have:=HMK.out;simp[intOf];omega
         ·have NE:Hid ((s.toList == t.toList)=false):=Yy (by cases hh:(s.toList == t.toList) with | true=>exact absurd ((str_beq _ _).1 hh) hst | false=>rfl);have hq:=(show (SH.sum (nums s) == SH.sum (nums t))=decide (dgT s=dgT t) from by unfold dgT;rw[Bool.eq_iff_iff,beq_iff_eq,decide_eq_true_iff]);rw[hq]at QD;clear hq;by_cases hdd:dgT s=dgT t
          ·rw[decide_eq_true hdd]at QD;clear hst hdd;go_wp2_with fail;refine wp_region_G _ (by kernel_rfl) ?_;refine YGa 0 (some 96) rfl ?_;refine YGa 1 (some 97) rfl ?_;refine YGb 2 (some 98) rfl (fun w9 hSw=>IS1.out w9) ?_;refine YGb 3 (some 99) rfl (fun w9 hSw=>ES1.out w9 hSw) ?_;refine YGa 4 (some 100) rfl ?_;refine YGa 5 (some 101) rfl ?_;refine YGb 6 (some 102) rfl (fun w9 hSw=>IS2.out w9) ?_;refine YGb 7 (some 103) rfl (fun w9 hSw=>ES2.out w9 hSw) ?_;refine YGd 8 (some 104) (.bool true) rfl (fun w9 hSw=>by have q9:=NE.out;go_simp;try with_reducible rfl) ?_;refine YGa 9 (some 105) rfl ?_;refine YGa 10 (some 106) rfl ?_;refine YGa 11 (some 107) rfl ?_;refine YGb 12 (some 108) rfl (fun w9 hSw=>ID1.out w9) ?_;refine YGd 13 (some 109) (.agg (bvals (dgT s))) rfl (fun w9 hSw=>by exact exec_load_at 26 _ rfl _ rfl (LD1.out w9 hSw)) ?_;refine YGa 14 (some 110) rfl ?_;refine YGa 15 (some 111) rfl ?_;refine YGb 16 (some 112) rfl (fun w9 hSw=>ID2.out w9) ?_;refine YGd 17 (some 113) (.agg (bvals (dgT t))) rfl (fun w9 hSw=>by exact exec_load_at 26 _ rfl _ rfl (LD2.out w9 hSw)) ?_;refine YGd 18 (some 114) (.bool true) rfl (fun w9 hSw=>by have q0:=QD.out w9;exact exec_eql_at 26 _ _ _ rfl rfl rfl guardDigL q0) ?_;refine YGa 19 (some 115) rfl ?_;refine wpG_done (by kernel_rfl) ?_ _;intro w9 hSw _;have B9:=Yy (HB5.out w9 (B6.out.trans ((HB7.out.trans (hSw.mono HB7.out.size)).mono B6.out.size)));clear hSw;go_wp2;go_ret;exact⟨true,rfl,B9.out,fun h=>by cases h⟩
          ·rw[decide_eq_false hdd]at QD;have HH:=Yy hdd;clear hst hdd;go_wp2_with fail;refine wp_region_G _ (by kernel_rfl) ?_;refine YGa 0 (some 96) rfl ?_;refine YGa 1 (some 97) rfl ?_;refine YGb 2 (some 98) rfl (fun w9 hSw=>IS1.out w9) ?_;refine YGb 3 (some 99) rfl (fun w9 hSw=>ES1.out w9 hSw) ?_;refine YGa 4 (some 100) rfl ?_;refine YGa 5 (some 101) rfl ?_;refine YGb 6 (some 102) rfl (fun w9 hSw=>IS2.out w9) ?_;refine YGb 7 (some 103) rfl (fun w9 hSw=>ES2.out w9 hSw) ?_;refine YGd 8 (some 104) (.bool true) rfl (fun w9 hSw=>by have q9:=NE.out;go_simp;try with_reducible rfl) ?_;refine YGa 9 (some 105) rfl ?_;refine YGa 10 (some 106) rfl ?_;refine YGa 11 (some 107) rfl ?_;refine YGb 12 (some 108) rfl (fun w9 hSw=>ID1.out w9) ?_;refine YGd 13 (some 109) (.agg (bvals (dgT s))) rfl (fun w9 hSw=>by exact exec_load_at 26 _ rfl _ rfl (LD1.out w9 hSw)) ?_;refine YGa 14 (some 110) rfl ?_;refine YGa 15 (some 111) rfl ?_;refine YGb 16 (some 112) rfl (fun w9 hSw=>ID2.out w9) ?_;refine YGd 17 (some 113) (.agg (bvals (dgT t))) rfl (fun w9 hSw=>by exact exec_load_at 26 _ rfl _ rfl (LD2.out w9 hSw)) ?_;refine YGd 18 (some 114) (.bool false) rfl (fun w9 hSw=>by have q0:=QD.out w9;exact exec_eql_at 26 _ _ _ rfl rfl rfl guardDigL q0) ?_;refine YGa 19 (some 115) rfl ?_;refine wpG_done (by kernel_rfl) ?_ _;intro w9 hSw _;have B9:=Yy (HB7.out.trans (hSw.mono HB7.out.size));clear hSw;go_wp2;go_roundw
           case rel=>exact⟨m+1,by have:=HMK.out;omega,by go_num,B9.out,HPO.out (by exact .inr HH.out)⟩
           case measure=>have:=HMK.out;simp[intOf];omega
        ·obtain rfl:m=k:=by omega
         have HOM:Hid (∀ q,q<m→offP T m q):=Yy hofm;have B9:=Yy (B6.out.trans (hb6.mono B6.out.size));have O9:=Yy (own_below O5.out hb6);clear hofm hb6;go_wp2;go_roundw
         case rel=>exact⟨m+1,by have:=HK1.out;omega,by go_num,by rw[HTK.out];exact O9.out,B9.out,offAll_succ HOF.out HOM.out⟩
         case measure=>have:=HK1.out;simp[intOf];omega
      ·obtain rfl:k=n:=by omega
       have HOF:=Yy hoff;have B9:=Yy (HB5.out wr hb);clear ho hb hoff;go_wp2;go_ret;exact⟨false,rfl,B9.out,fun _=>HNL.out (by rw[← HNN.out];exact HOF.out)⟩
end
section
open Go.RowKit Go.Shelf WM
theorem addAll_err {e:Int} {Y:List Rc} (h:e≠0):∀ L:List Rc,addAll L (e,Y)=(e,Y)
 | []=>rfl
 | P::L=>by
  have ih:=addAll_err (Y:=Y) h L;unfold addAll at *;rw[List.foldl_cons,if_neg h];exact ih
theorem addAll_app (L M:List Rc) (a:Int×List Rc):addAll (L++M) a=addAll M (addAll L a):=List.foldl_append
theorem addAll_take {V Y Z:List Rc} (h:addAll V (0,Y)=(0,Z)) (k:Nat):(addAll (V.take k) (0,Y)).1=0:=by
 rcases Int.decEq (addAll (V.take k) (0,Y)).1 0 with h0 | h0
 ·exfalso
  have h1:addAll V (0,Y)=addAll (V.drop k) (addAll (V.take k) (0,Y)):=by rw[← addAll_app,List.take_append_drop]
  rw[h1,show addAll (V.take k) (0,Y)=((addAll (V.take k) (0,Y)).1,(addAll (V.take k) (0,Y)).2) from rfl,addAll_err h0]at h;exact h0 (congrArg Prod.fst h)
 ·exact h0
theorem addAll_step {V Y Z:List Rc} (h:addAll V (0,Y)=(0,Z)) {k:Nat} (hk:k<V.length):addE (addAll (V.take k) (0,Y)).2 (V.getD k rc0)=(0,(addAll (V.take (k+1)) (0,Y)).2):=by
 have h0:=addAll_take h k;have h1:=addAll_take h (k+1);have e:addAll (V.take (k+1)) (0,Y)=addE (addAll (V.take k) (0,Y)).2 (V.getD k rc0):=by
  rw[List.take_succ_eq_append_getElem hk,addAll_app,List.getD_eq_getElem?_getD,List.getElem?_eq_getElem hk];show (if (addAll (V.take k) (0,Y)).1=0 then addE (addAll (V.take k) (0,Y)).2 V[k] else addAll (V.take k) (0,Y))=_;rw[if_pos h0]
  rfl
 rw[← e];exact Prod.ext h1 rfl
theorem aparts_eq {base:List Int} {X Y:List Rc} (hX:bmay X=true) (hY:bmay Y=true):aparts X (mof SH.sum base Y)=X.filterMap (apart (mof SH.sum base Y)):=by
 unfold aparts;rw[hX,mof_may _ _ _ hY]
 rfl
theorem bjE_err (a b:List Rc):(bjE a b).1=0∨(bjE a b).1=1∨(bjE a b).1=4:=by
 unfold bjE
 split
 ·split
  ·exact .inr (.inr rfl)
  ·exact .inl rfl
 ·exact .inr (.inl rfl)
theorem joins_len {m:Mn} {X:List Rc}:(aparts X m).length≤X.length:=by
 unfold aparts
 split
 ·exact List.length_filterMap_le _ _
 ·exact Nat.zero_le _
end
end Go.Proofs.YtnlhkpmgbpfjmaaGreatDoor
