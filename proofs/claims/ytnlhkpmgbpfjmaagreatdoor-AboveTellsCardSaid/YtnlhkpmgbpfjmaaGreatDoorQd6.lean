import Derived.Test.YtnlhkpmgbpfjmaaGreatDoorQd5
import Derived.RangeFuncNested
import Derived.RangeFuncBound
import Derived.RangeFuncCalls
import Derived.RangeFuncLeaves
import Derived.Shelf.Abstract
import Derived.Shelf.RegionOpen
import Derived.OwnWalkIn
import Derived.TacticsInMore
import Derived.LoopNIn
import Derived.LoopIn
import Derived.Maps.OwnIn
/- What functions answer, part 6. -/
namespace Go.Proofs.YtnlhkpmgbpfjmaaGreatDoor
set_option linter.unusedVariables false
set_option linter.unusedSimpArgs false
set_option maxHeartbeats 16000000
set_option maxRecDepth 100000
section
open Go.RowKit WM
def fewME (x:LnA):Bool:=decide (x.es.length≤12) && x.es.all fun e=>decide (e.e.bs.length≤40)
theorem mfew_A (m:MnA):mfew m.m=(decide (m.ls.length≤14) && m.ls.all fewME):=by
 simp[mfew,MnA.m,LnA.x,List.all_map,Function.comp_def]
 rfl
theorem MnAt.new (w:World) (m:MnA):MnAt (w.alloc (.cells m.cs.toArray 29)) w.heap.size m:=heap_alloc_new w _
theorem fewM_drop {ls:List LnA} {k:Nat} (hk:k<ls.length):(ls.drop k).all fewME=(fewME (ls.getD k lnA0) && (ls.drop (k+1)).all fewME):=by
 rw[List.drop_eq_getElem_cons hk,List.all_cons,List.getD_eq_getElem?_getD,List.getElem?_eq_getElem hk]
 rfl
def fewMB (e:EnA):Bool:=decide (e.e.bs.length≤40)
theorem fewM_dropE {es:List EnA} {k:Nat} (hk:k<es.length):(es.drop k).all fewMB=(fewMB (es.getD k enA0) && (es.drop (k+1)).all fewMB):=by
 rw[List.drop_eq_getElem_cons hk,List.all_cons,List.getD_eq_getElem?_getD,List.getElem?_eq_getElem hk]
 rfl
theorem rfew12_any (m:MnA) (w:World) (h:m.Ok w):Calls Tryz.prog 11 #[m.v] w fun e w'=>e=.returned (.bool (mfew m.m))∧Below w.heap.size w w':=by
 rw[mfew_A];have hmn:=MnAt.new w m;obtain⟨w1,hw1⟩:∃ w1,w1=w.alloc (.cells m.cs.toArray 29):=⟨_,rfl⟩;rw[← hw1]at hmn;have hb1:Below w.heap.size w w1:=by rw[hw1];exact (Below.refl _ _).alloc Nl _
 have h1:=MnA.below h (hb1.mono Nl);have HB1:=Yy hb1;have HC:=Yy (fun X (hX:Below w1.heap.size w1 X)=>(hmn.below hX hmn.lt).c32 h1.1);have HR:=Yy (fun h0=>ln_row h1.2.2 h0);have HOK:=Yy (fun k (hk:k<m.ls.length)=>show LnA.Ok w1 (m.ls.getD k lnA0) from Kind.row_ok h1.2.2 hk);have hv:m.v=.agg m.cs.toArray:=rfl;have c1:=HC.out w1 (Below.refl _ _);rw[hv];have HV0:=Yy (show (decide (m.ls.length≤14) && m.ls.all fewME)=(decide (m.ls.length≤14) && (m.ls.drop 0).all fewME) from rfl);generalize (decide (m.ls.length≤14) && m.ls.all fewME)=V at *;generalize m.cs.toArray=E at *;obtain⟨base,A,c,ls⟩:=m;dsimp only at *;have HFD:=Yy (fun k (hk:k<ls.length)=>fewM_drop hk);generalize hn:ls.length=n at *;have HN:=Yy hn;clear h h1 hmn hv hb1 hn;subst hw1;go_enter Tryz.func11,Tryz.ntmps11;by_cases t0:(14:Int)<(n:Int)
 ·have HF:=Yy (show V=false by rw[HV0.out,decide_eq_false (p:=n≤14) (by omega)];rfl);go_wp2;go_ret;exact⟨by rw[HF.out];try rfl,HB1.out⟩
 have HV1:=Yy (show V=(ls.drop 0).all fewME by rw[HV0.out,decide_eq_true (p:=n≤14) (by omega),Bool.true_and]);clear HV0;go_wp2;clear c1;generalize w.alloc (.cells E 29)=w1 at *;go_loopw [3] (fun i wr=>∃ k:Nat,k≤n∧i=.int .i64 k∧Below w1.heap.size w1 wr∧V=(ls.drop k).all fewME) (fun i _=>n - (intOf i).toNat)
 case atStart=>exact⟨0,Nat.zero_le _,rfl,Below.refl _ _,HV1.out⟩
 case round=>
  obtain⟨k,hk,rfl,hb,hf⟩:=hrel;have HBB:=Yy hb;have B9:=Yy (HB1.out.trans (hb.mono HB1.out.size));have cc1:=HC.out wr hb;by_cases hlt:k<n
  ·have t1:(k:Int)<(n:Int):=by omega
   obtain⟨b1,off1,hA1,hb1w,hx1,hi1⟩:=HR.out (by omega);have ix1:=hi1 k hlt k rfl;rw[← hA1]at ix1;have hok:=HOK.out k hlt;have s18:=(hb.cell (p:=⟨b1,off1+k*19+18,none⟩) hb1w).trans (ln_c18 (hx1 k hlt) hok.1);have HS18:=Yy (fun X (hX:Below w1.heap.size w1 X)=>(hX.cell (p:=⟨b1,off1+k*19+18,none⟩) hb1w).trans (ln_c18 (hx1 k hlt) hok.1));rw[HFD.out k hlt]at hf;generalize ls.getD k lnA0=x at *;have HE:=Yy (fun h0=>en_row hok.2.2.2.2 h0);have HEO:=Yy (fun j (hj:j<x.es.length)=>show EnA.Ok w1 (x.es.getD j enA0) from Kind.row_ok hok.2.2.2.2 hj);obtain⟨z,q,r,Ae,ce,es⟩:=x;dsimp only at s18 HS18 HE HEO;have hfe:fewME ⟨z,q,r,Ae,ce,es⟩=(decide (es.length≤12) && es.all fewMB):=rfl;rw[hfe]at hf;have HFE:=Yy (fun j (hj:j<es.length)=>fewM_dropE hj);generalize hm:es.length=M at *;have HM:=Yy hm;generalize hrst:(ls.drop (k+1)).all fewME=rest at *;have HRST:=Yy hrst;have HFF:=Yy hf;clear hx1 hi1 hA1 hok hf hb hfe hm hrst;by_cases t2:(12:Int)<(M:Int)
   ·have HF:=Yy (show V=false by rw[HFF.out,decide_eq_false (p:=M≤12) (by omega)];rfl);go_wp2;go_ret;exact⟨by rw[HF.out];try rfl,B9.out⟩
   have HF0:=Yy (show V=((es.drop 0).all fewMB && rest) by rw[HFF.out,decide_eq_true (p:=M≤12) (by omega)];rfl);go_wp2;clear cc1 s18;go_loopw [4] (fun i wr2=>∃ j:Nat,j≤M∧i=.int .i64 j∧Below w1.heap.size w1 wr2∧V=((es.drop j).all fewMB && rest)) (fun i _=>M - (intOf i).toNat)
   case atStart=>exact⟨0,Nat.zero_le _,rfl,HBB.out,HF0.out⟩
   case round=>
    obtain⟨j,hj,rfl,hb2,hf2⟩:=hrel;have HB2:=Yy hb2;have B10:=Yy (HB1.out.trans (hb2.mono HB1.out.size));have cc1:=HC.out _ hb2;have s18:=HS18.out _ hb2;by_cases hjt:j<M
    ·have t3:(j:Int)<(M:Int):=by omega
     obtain⟨b2,off2,hA2,hb2w,hx2,hi2⟩:=HE.out (by omega);have ix2:=hi2 j hjt j rfl;rw[← hA2]at ix2;have hokE:=HEO.out j hjt;have s36:=(hb2.cell (p:=⟨b2,off2+j*37+36,none⟩) hb2w).trans (en_c36 (hx2 j hjt) hokE.2.2.2.2.1);rw[HFE.out j hjt]at hf2;generalize es.getD j enA0=y at *;have hfy:fewMB y=decide (y.e.bs.length≤40):=rfl;rw[hfy]at hf2;have HF2:=Yy hf2;clear hx2 hi2 hA2 hokE hf2 hb2 hfy;by_cases t4:(40:Int)<(y.e.bs.length:Int)
     ·have HF:=Yy (show V=false by rw[HF2.out,decide_eq_false (p:=y.e.bs.length≤40) (by omega)];rfl);go_wp2;go_ret;exact⟨by rw[HF.out];try rfl,B10.out⟩
     ·have HF:=Yy (show V=((es.drop (j+1)).all fewMB && rest) by rw[HF2.out,decide_eq_true (p:=y.e.bs.length≤40) (by omega),Bool.true_and]);go_wp2;go_roundw
      case rel=>exact⟨j+1,by omega,by go_num,HB2.out,HF.out⟩
      case measure=>simp[intOf];omega
    ·obtain rfl:j=M:=by omega
     have t3:¬ (j:Int)<(j:Int):=by omega
     have HF:=Yy (show V=rest by rw[hf2,List.drop_eq_nil_of_le (by rw[HM.out];exact Nat.le_refl _)];rfl);clear hf2 hb2;go_wp2;go_roundw
     case rel=>exact⟨k+1,by omega,by go_num,HB2.out,by rw[HRST.out];exact HF.out⟩
     case measure=>simp[intOf];omega
  ·obtain rfl:k=n:=by omega
   have t1:¬ (k:Int)<(k:Int):=by omega
   have HF:=Yy (show V=true by rw[hf,List.drop_eq_nil_of_le (by rw[HN.out];exact Nat.le_refl _)];rfl);clear hf hb;go_wp2;go_ret;exact⟨by rw[HF.out];try rfl,B9.out⟩
end
section
section
open Go.RowKit WM
def rfind (fs:List Fld) (no:Int):Option Cel:=(fs.find? fun f=>decide (f.no=no)).map (·.c)
theorem rfind_nil (no:Int):rfind [] no=none:=rfl
theorem rfind_cons (f:Fld) (fs:List Fld) (no:Int):rfind (f::fs) no=if f.no=no then some f.c else rfind fs no:=by
 by_cases h:f.no=no<;>simp[rfind,h]
theorem rfind_drop {fs:List Fld} {no:Int} {k:Nat} (hk:k<fs.length):rfind (fs.drop k) no=if (fs.getD k fld0).no=no then some (fs.getD k fld0).c else rfind (fs.drop (k+1)) no:=by
 rw[List.drop_eq_getElem_cons hk,rfind_cons];simp[List.getD,List.getElem?_eq_getElem hk]
def FindPost (w:World) (o:Option Cel) (e:Ending) (w':World):Prop:=e=.returned (.tuple #[(o.getD cel00).v,.bool o.isSome])∧Below w.heap.size w w'
theorem find_any (z:List Int) (n r:Int) (A:Option Addr) (len c:Nat) (fs:List Fld) (no:Int) (w:World) (hz:z.length=16) (hl:fs.length=len) (h:FsAt w A c fs):
  Calls Tryz.prog 26 #[rv z n r (.slice A len c),.int .i64 no] w (FindPost w (rfind fs no)):=by
 obtain⟨hc1,hc2,hc3,hcell⟩:=h;simp only[maxLen]at hc2;have HL:=Yy hl;have HC:=Yy hcell;have S0:=(RcAt.new w hz n r (.slice A len c)).old (.cells #[.int .i64 0,.int .i64 0,.string ⟨#[]⟩] 38);have c18:=S0.c18;have S1:=ClAt.new (w.alloc (.cells (rcells z n r (.slice A len c)) 36)) cel00;rw[World.size_alloc]at S1;have HB:=((Below.refl w.heap.size w).alloc Nl (.cells (rcells z n r (.slice A len c)) 36)).alloc (by simp) (.cells #[.int .i64 0,.int .i64 0,.string ⟨#[]⟩] 38);have H1:=Yy (And.intro S1 HB);have hlen:len≤c:=by omega
 clear hcell S0 S1 HB hc1 hl;have hp:FindPost w (rfind fs no)=FindPost w (rfind (fs.drop 0) no):=rfl;unfold rv;go_enter Tryz.func26,Tryz.ntmps26;go_wp2;go_loopw [11] (fun i wr=>∃ k:Nat,k≤len∧i=.int .i64 k∧ClAt wr (w.heap.size+1) cel00∧Below w.heap.size w wr∧rfind fs no=rfind (fs.drop k) no) (fun i _=>len - (intOf i).toNat)
 case atStart=>exact⟨0,Nat.zero_le _,rfl,H1.out.1,H1.out.2,rfl⟩
 case round=>
  obtain⟨k,hk,rfl,hs,hb,hf⟩:=hrel;by_cases hlt:k<len
  ·obtain⟨b,off,rfl,hbB,hcc⟩:=HC.out (by rw[HL.out];omega);obtain⟨c0,c1,c2,c3⟩:=hcc k (by rw[HL.out];exact hlt);have c0:=(hb.cell (p:=⟨b,off+k*4,none⟩) hbB).trans c0;have c1:=(hb.cell (p:=⟨b,off+k*4+1,none⟩) hbB).trans c1;have c2:=(hb.cell (p:=⟨b,off+k*4+2,none⟩) hbB).trans c2;have c3:=(hb.cell (p:=⟨b,off+k*4+3,none⟩) hbB).trans c3;have IX:=ix_fld b off len c k hlt k rfl;rw[rfind_drop (by rw[HL.out];exact hlt)]at hf;generalize fs.getD k fld0=f at c0 c1 c2 c3 hf;obtain⟨m,x⟩:=f;dsimp only at c0 c1 c2 c3 hf;generalize off+k*4=o at c0 c1 c2 c3 IX;have hO:=hs.old (.cells #[.int .i64 m,.int .i64 x.n,.int .i64 x.r,.string x.s] 59);have hbO:=hb.alloc hb.size (.cells #[.int .i64 m,.int .i64 x.n,.int .i64 x.r,.string x.s] 59);clear hcc;by_cases he:m=no
   ·subst he;have d0:=hO.c0;have d1:=hO.c1;have d2:=hO.c2;have e0:=hO.fz 0;have e1:=hO.fz 1;have e2:=hO.fz 2;have HP:=Yy (hO.put x);have HQ:=Yy (below_put3 hbO (show w.heap.size≤w.heap.size+1 by omega) (.int .i64 x.n) (.int .i64 x.r) (.string x.s));rw[if_pos rfl]at hf;have HF:=Yy hf;clear hs hb hO hbO hf;go_wp2;refine bodyPost_ret (v:=.tuple #[x.v,.bool true]) ?_ rfl ⟨?_,HQ.out⟩
    ·exact res_cl2 Tryz.results26 rfl HP.out
    ·rw[HF.out];rfl
   ·rw[if_neg he]at hf;have HF:=Yy hf;have HO:=Yy hO;have HBO:=Yy hbO;clear hs hb hO hbO hf;go_wp2;go_roundw
    case rel=>exact⟨k+1,by omega,by go_num,HO.out,HBO.out,HF.out⟩
    case measure=>simp[intOf];omega
  ·obtain rfl:k=len:=by omega
   have e0:=hs.fz 0;have e1:=hs.fz 1;have e2:=hs.fz 2;have d0:=hs.c0;have d1:=hs.c1;have d2:=hs.c2;have HP:=Yy (hs.put cel00);have HQ:=Yy (below_put3 hb (show w.heap.size≤w.heap.size+1 by omega) (.int .i64 0) (.int .i64 0) (.string ⟨#[]⟩));rw[List.drop_eq_nil_of_le (by rw[HL.out];exact Nat.le_refl _),rfind_nil]at hf;have HF:=Yy hf;clear hs hb hf;go_wp2;refine bodyPost_ret (v:=.tuple #[cel00.v,.bool false]) ?_ rfl ⟨?_,HQ.out⟩
   ·exact res_cl2 Tryz.results26 rfl HP.out
   ·rw[HF.out];rfl
end
section
open Go.RowKit WM
def okFrom (n r:Int):Int→List Fld→Bool
 | _,[]=>true
 | m,f::fs=>decide (m≤f.no) && decide (f.no<8) && cmay f.c && stLess n r f.c.n f.c.r && okFrom n r (f.no+1) fs
def rmay (n r:Int) (fs:List Fld):Bool:=may n r && !(decide (fs.length=0) && decide (n=0) && decide (r=0)) && okFrom n r 0 fs
theorem okFrom_drop (n r m:Int) {fs:List Fld} {k:Nat} (hk:k<fs.length):okFrom n r m (fs.drop k) =
  (decide (m≤(fs.getD k fld0).no) && decide ((fs.getD k fld0).no<8) && cmay (fs.getD k fld0).c && stLess n r (fs.getD k fld0).c.n (fs.getD k fld0).c.r && okFrom n r ((fs.getD k fld0).no+1) (fs.drop (k+1))):=by
 rw[List.drop_eq_getElem_cons hk,okFrom];simp only[List.getD,List.getElem?_eq_getElem hk,Option.getD_some]
def MayPost (w:World) (v:Bool) (e:Ending) (w':World):Prop:=e=.returned (.bool v)∧Below w.heap.size w w'
theorem rmay_any (z:List Int) (n r:Int) (A:Option Addr) (len c:Nat) (fs:List Fld) (w:World) (hz:z.length=16) (hl:fs.length=len) (h:FsAt w A c fs):
  Calls Tryz.prog 58 #[rv z n r (.slice A len c)] w (MayPost w (rmay n r fs)):=by
 obtain⟨hc1,hc2,hc3,hcell⟩:=h;simp only[maxLen]at hc2;have HL:=Yy hl;have HC:=Yy hcell;have S0:=Yy (RcAt.new w hz n r (.slice A len c));have HB:=Yy ((Below.refl w.heap.size w).alloc Nl (.cells (rcells z n r (.slice A len c)) 36));have HM:=Yy (may_any n r);have hlen:len≤c:=by omega
 have s0:=S0.out.c16;have s1:=S0.out.c17;clear hcell hc1 hl;unfold rv;unfold st at HM;cases hm:may n r
 ·have HV:=Yy (show rmay n r fs=false by simp[rmay,hm]);rw[hm]at HM;clear hm;go_enter Tryz.func58,Tryz.ntmps58;go_wp2_with fail;refine (HM.out _).mono ?_;exact Ttb18
 ·rw[hm]at HM;by_cases h0:len=0∧n=0∧r=0
  ·obtain⟨rfl,rfl,rfl⟩:=h0;have HV:=Yy (show rmay 0 0 fs=false by simp[rmay,hm,HL.out]);clear hm;go_enter Tryz.func58,Tryz.ntmps58;go_wp2_with fail;refine (HM.out _).mono ?_;rintro e w1 ⟨rfl,hb1⟩;have s2:=S0.out.below hb1 S0.out.lt;have d0:=s2.c16;have d1:=s2.c17;have d2:=s2.c18;have bw:=Yy (HB.out.trans (hb1.mono HB.out.size));clear hb1 s2;go_wp2;go_ret;exact⟨by rw[HV.out];rfl,bw.out⟩
  ·have HV:=Yy (show rmay n r fs=okFrom n r 0 (fs.drop 0) by
    simp only[rmay,hm,HL.out,Bool.true_and,List.drop_zero];have:(decide (len=0) && decide (n=0) && decide (r=0))=false:=by
     simp only[Bool.and_eq_false_iff,decide_eq_false_iff_not];omega
    rw[this]
    rfl)
   by_cases hl0:len=0
   ·subst hl0;have HT:=Yy (show rmay n r fs=true by rw[HV.out,List.drop_eq_nil_of_le (by rw[HL.out];exact Nat.zero_le _)];rfl);have hne:=st_ne (n:=n) (r:=r) (m:=0) (s:=0) (by omega);clear hm h0 HV;go_enter Tryz.func58,Tryz.ntmps58;go_wp2_with fail;refine (HM.out _).mono ?_;rintro e w1 ⟨rfl,hb1⟩;have s2:=S0.out.below hb1 S0.out.lt;have d0:=s2.c16;have d1:=s2.c17;have d2:=s2.c18;have bw:=Yy (HB.out.trans (hb1.mono HB.out.size));clear hb1 s2;go_wp2;refine wp_loop_rounds 1 ?_;rw[rounds_succ];go_wp2;go_ret;exact⟨by rw[HT.out];rfl,bw.out⟩
   ·have hln:¬ (len:Int)=0:=by omega
    clear hm h0;go_enter Tryz.func58,Tryz.ntmps58;go_wp2_with fail;refine (HM.out _).mono ?_;rintro e w1 ⟨rfl,hb1⟩;have s2:=S0.out.below hb1 S0.out.lt;have d0:=s2.c16;have d1:=s2.c17;have d2:=s2.c18;have bw:=Yy (HB.out.trans (hb1.mono HB.out.size));have S2:=Yy s2;clear hb1 s2;go_wp2;clear d0 d1 d2;go_loopw [3,25] (fun v i wr=>∃ (k:Nat) (m:Int),k≤len∧i=.int .i64 k∧v=.int .i64 m∧0≤m∧m≤8∧RcAt wr w.heap.size z n r (.slice A len c)∧Below w.heap.size w wr∧rmay n r fs=okFrom n r m (fs.drop k)) (fun _ i _=>len - (intOf i).toNat)
    case atStart=>exact⟨0,0,Nat.zero_le _,rfl,rfl,by omega,by omega,S2.out,bw.out,HV.out⟩
    case round=>
     obtain⟨k,m,hk,rfl,rfl,hm0,hm8,hs,hb,hf⟩:=hrel;by_cases hlt:k<len
     ·obtain⟨b,off,rfl,hbB,hcc⟩:=HC.out (by rw[HL.out];omega);obtain⟨c0,c1,c2,c3⟩:=hcc k (by rw[HL.out];exact hlt);have c0:=(hb.cell (p:=⟨b,off+k*4,none⟩) hbB).trans c0;have c1:=(hb.cell (p:=⟨b,off+k*4+1,none⟩) hbB).trans c1;have c2:=(hb.cell (p:=⟨b,off+k*4+2,none⟩) hbB).trans c2;have c3:=(hb.cell (p:=⟨b,off+k*4+3,none⟩) hbB).trans c3;have IX:=ix_fld b off len c k hlt k rfl;rw[okFrom_drop n r m (by rw[HL.out];exact hlt)]at hf;generalize fs.getD k fld0=f at c0 c1 c2 c3 hf;obtain⟨no,x⟩:=f;dsimp only at c0 c1 c2 c3 hf;generalize off+k*4=o at c0 c1 c2 c3 IX;have hO:=Yy (hs.old (.cells #[.int .i64 no,.int .i64 x.n,.int .i64 x.r,.string x.s] 59));have hbO:=Yy (hb.alloc hb.size (.cells #[.int .i64 no,.int .i64 x.n,.int .i64 x.r,.string x.s] 59));have hF:=Yy (FlAt.new wr ⟨no,x⟩);dsimp only at hF;clear hcc hs hb;by_cases h1:m≤no
      ·by_cases h2:no<8
       ·have t1:¬ no<m:=by omega
        have t2:¬ 8≤no:=by omega
        rw[decide_eq_true h1,decide_eq_true h2]at hf;simp only[Bool.true_and]at hf;have HCM:=Yy (cmay_any x);have HLV:=Yy (lives_any n r x);unfold st at HLV;unfold Cel.v at HCM HLV;cases hc:cmay x
        ·rw[hc]at hf HCM;simp only[Bool.false_and]at hf;have HF:=Yy hf;clear hc hf;go_wp2_with fail;refine (HCM.out _).mono ?_;rintro e w2 ⟨rfl,hb2⟩;have b2:=Yy (hbO.out.trans (hb2.mono hbO.out.size));clear hb2;go_wp2;go_ret;exact⟨by rw[HF.out];rfl,b2.out⟩
        ·rw[hc]at hf HCM;simp only[Bool.true_and]at hf;clear hc;cases hv:stLess n r x.n x.r
         ·rw[hv]at hf HLV;simp only[Bool.false_and]at hf;have HF:=Yy hf;clear hv hf;go_wp2_with fail;refine (HCM.out _).mono ?_;rintro e w2 ⟨rfl,hb2⟩;have b2:=Yy (hbO.out.trans (hb2.mono hbO.out.size));have g:=hF.out.below hb2 hF.out.lt;have g0:=g.c0;have g1:=g.c1;have g2:=g.c2;have g3:=g.c3;have s:=hO.out.below hb2 hO.out.lt;have d0:=s.c16;have d1:=s.c17;clear hb2 g s;go_wp2_with fail;refine (HLV.out _).mono ?_;rintro e w3 ⟨rfl,hb3⟩;have b3:=Yy (b2.out.trans (hb3.mono b2.out.size));clear hb3;go_wp2;go_ret;exact⟨by rw[HF.out];rfl,b3.out⟩
         ·rw[hv]at hf HLV;simp only[Bool.true_and]at hf;have HF:=Yy hf;clear hv hf;go_wp2_with fail;refine (HCM.out _).mono ?_;rintro e w2 ⟨rfl,hb2⟩;have b2:=Yy (hbO.out.trans (hb2.mono hbO.out.size));have g:=hF.out.below hb2 hF.out.lt;have G2:=Yy g;have g0:=g.c0;have g1:=g.c1;have g2:=g.c2;have g3:=g.c3;have s:=hO.out.below hb2 hO.out.lt;have O2:=Yy s;have d0:=s.c16;have d1:=s.c17;clear hb2 g s;go_wp2_with fail;refine (HLV.out _).mono ?_;rintro e w3 ⟨rfl,hb3⟩;have b3:=Yy (b2.out.trans (hb3.mono b2.out.size));have O3:=Yy (O2.out.below hb3 O2.out.lt);have g:=G2.out.below hb3 G2.out.lt;have k0:=g.c0;clear hb3 g g0 g1 g2 g3 d0 d1;go_wp2;go_roundw
          case rel=>exact⟨k+1,no+1,by omega,by go_num,by go_num,by omega,by omega,O3.out,b3.out,HF.out⟩
          case measure=>simp[intOf];omega
       ·rw[decide_eq_false h2]at hf;simp only[Bool.and_false,Bool.false_and]at hf;have HF:=Yy hf;have t1:¬ no<m:=by omega
        have t2:8≤no:=by omega
        clear hf;go_wp2;go_ret;exact⟨by rw[HF.out];rfl,hbO.out⟩
      ·rw[decide_eq_false h1]at hf;simp only[Bool.false_and]at hf;have HF:=Yy hf;have t1:no<m:=by omega
       clear hf;go_wp2;go_ret;exact⟨by rw[HF.out];rfl,hbO.out⟩
     ·obtain rfl:k=len:=by omega
      rw[List.drop_eq_nil_of_le (by rw[HL.out];exact Nat.le_refl _),okFrom]at hf;have HF:=Yy hf;have HB2:=Yy hb;clear hf hb hs;go_wp2;go_ret;exact⟨by rw[HF.out];rfl,HB2.out⟩
end
end
section
section
open Go.RowKit WM
theorem eq_drop {fs gs:List Fld} {k:Nat} (h1:k<fs.length) (h2:k<gs.length):(fs.drop k=gs.drop k)↔(fs.getD k fld0=gs.getD k fld0∧fs.drop (k+1)=gs.drop (k+1)):=by
 rw[List.drop_eq_getElem_cons h1,List.drop_eq_getElem_cons h2,List.cons.injEq];simp only[List.getD,List.getElem?_eq_getElem h1,List.getElem?_eq_getElem h2,Option.getD_some]
theorem equal_any (A1 A2:Option Addr) (len1 len2 cap1 cap2:Nat) (fs gs:List Fld) (w:World) (hl1:fs.length=len1) (hl2:gs.length=len2) (h1:FsAt w A1 cap1 fs) (h2:FsAt w A2 cap2 gs):
  Calls Tryz.prog 88 #[.slice A1 len1 cap1,.slice A2 len2 cap2] w fun e w'=>e=.returned (.bool (decide (fs=gs)))∧Below w.heap.size w w':=by
 obtain⟨hc1,hm1,hn1,hcell1⟩:=h1;obtain⟨hc2,hm2,hn2,hcell2⟩:=h2;simp only[maxLen]at hm1 hm2;have HL1:=Yy hl1;have HC1:=Yy hcell1;have HL2:=Yy hl2;have HC2:=Yy hcell2;have hlen1:len1≤cap1:=by omega
 have hlen2:len2≤cap2:=by omega
 clear hcell1 hcell2 hc1 hc2 hl1 hl2 hn1 hn2;by_cases hl:len1=len2
 ·subst hl;have HV:=Yy (show decide (fs=gs)=decide (fs.drop 0=gs.drop 0) by rw[List.drop_zero,List.drop_zero]);have HB0:=Yy (Below.refl w.heap.size w);go_enter Tryz.func88,Tryz.ntmps88;go_wp2;go_loopw [13] (fun i wr=>∃ k:Nat,k≤len1∧i=.int .i64 k∧Below w.heap.size w wr∧decide (fs=gs)=decide (fs.drop k=gs.drop k)) (fun i _=>len1 - (intOf i).toNat)
  case atStart=>exact⟨0,Nat.zero_le _,rfl,HB0.out,HV.out⟩
  case round=>
   obtain⟨k,hk,rfl,hb,hf⟩:=hrel;by_cases hlt:k<len1
   ·obtain⟨b1,off1,rfl,hB1,hcc1⟩:=HC1.out (by rw[HL1.out];omega);obtain⟨c0,c1,c2,c3⟩:=hcc1 k (by rw[HL1.out];exact hlt);have IX1:=Yy (ix_fld b1 off1 len1 cap1 k hlt k rfl);obtain⟨b2,off2,rfl,hB2,hcc2⟩:=HC2.out (by rw[HL2.out];omega);obtain⟨d0,d1,d2,d3⟩:=hcc2 k (by rw[HL2.out];exact hlt);have IX2:=Yy (ix_fld b2 off2 len1 cap2 k hlt k rfl);have c0:=(hb.cell (p:=⟨b1,off1+k*4,none⟩) hB1).trans c0;have c1:=(hb.cell (p:=⟨b1,off1+k*4+1,none⟩) hB1).trans c1;have c2:=(hb.cell (p:=⟨b1,off1+k*4+2,none⟩) hB1).trans c2;have c3:=(hb.cell (p:=⟨b1,off1+k*4+3,none⟩) hB1).trans c3;have d0:=(hb.cell (p:=⟨b2,off2+k*4,none⟩) hB2).trans d0;have d1:=(hb.cell (p:=⟨b2,off2+k*4+1,none⟩) hB2).trans d1;have d2:=(hb.cell (p:=⟨b2,off2+k*4+2,none⟩) hB2).trans d2;have d3:=(hb.cell (p:=⟨b2,off2+k*4+3,none⟩) hB2).trans d3;have hB1:=Nat.lt_of_lt_of_le hB1 hb.size;have hB2:=Nat.lt_of_lt_of_le hB2 hb.size;have hdr:=eq_drop (fs:=fs) (gs:=gs) (k:=k) (by rw[HL1.out];exact hlt) (by rw[HL2.out];exact hlt);generalize fs.getD k fld0=f at c0 c1 c2 c3 hdr;generalize gs.getD k fld0=g at d0 d1 d2 d3 hdr;generalize off1+k*4=o1 at c0 c1 c2 c3 IX1;generalize off2+k*4=o2 at d0 d1 d2 d3 IX2;clear hcc1 hcc2;have HBR:=Yy hb;by_cases he:f=g
    ·subst he;have HEQ:=Yy (fl_same f);have HF:=Yy (show decide (fs=gs)=decide (fs.drop (k+1)=gs.drop (k+1)) by rw[hf,decide_eq_decide,hdr];simp);clear hf hdr hb;go_wp2_with fail;refine wp_region_G _ (by kernel_rfl) ?_;refine YGa 0 (some 16) rfl ?_;refine YGa 1 (some 17) rfl ?_;refine YGb 2 (some 18) rfl (fun w9 hSw=>IX1.out w9) ?_;refine YGd 3 (some 19) _ rfl (fun w9 hSw=>by have q0:=(hSw.cell (p:=⟨b1,o1,none⟩) hB1).trans c0;have q1:=(hSw.cell (p:=⟨b1,o1+1,none⟩) hB1).trans c1;have q2:=(hSw.cell (p:=⟨b1,o1+2,none⟩) hB1).trans c2;have q3:=(hSw.cell (p:=⟨b1,o1+3,none⟩) hB1).trans c3;go_simp;try with_reducible rfl) ?_;refine YGa 4 (some 20) rfl ?_;refine YGa 5 (some 21) rfl ?_;refine YGb 6 (some 22) rfl (fun w9 hSw=>IX2.out w9) ?_;refine YGd 7 (some 23) _ rfl (fun w9 hSw=>by have q0:=(hSw.cell (p:=⟨b2,o2,none⟩) hB2).trans d0;have q1:=(hSw.cell (p:=⟨b2,o2+1,none⟩) hB2).trans d1;have q2:=(hSw.cell (p:=⟨b2,o2+2,none⟩) hB2).trans d2;have q3:=(hSw.cell (p:=⟨b2,o2+3,none⟩) hB2).trans d3;go_simp;try with_reducible rfl) ?_;refine YGb 8 (some 24) rfl (fun w9 hSw=>HEQ.out w9) ?_;refine wpG_done (by kernel_rfl) ?_ _;intro w9 hSw _;have B9:=Yy (HBR.out.trans (hSw.mono HBR.out.size));clear hSw c0 c1 c2 c3 d0 d1 d2 d3;go_wp2;go_roundw
     case rel=>exact⟨k+1,by omega,by go_num,B9.out,HF.out⟩
     case measure=>simp[intOf];omega
    ·have HNE:=Yy he;have HF:=Yy (show decide (fs=gs)=false by rw[hf,decide_eq_false_iff_not,hdr];simp[he]);clear hf hdr hb he;go_wp2_with fail;refine wp_region_G _ (by kernel_rfl) ?_;refine YGa 0 (some 16) rfl ?_;refine YGa 1 (some 17) rfl ?_;refine YGb 2 (some 18) rfl (fun w9 hSw=>IX1.out w9) ?_;refine YGd 3 (some 19) _ rfl (fun w9 hSw=>by have q0:=(hSw.cell (p:=⟨b1,o1,none⟩) hB1).trans c0;have q1:=(hSw.cell (p:=⟨b1,o1+1,none⟩) hB1).trans c1;have q2:=(hSw.cell (p:=⟨b1,o1+2,none⟩) hB1).trans c2;have q3:=(hSw.cell (p:=⟨b1,o1+3,none⟩) hB1).trans c3;go_simp;try with_reducible rfl) ?_;refine YGa 4 (some 20) rfl ?_;refine YGa 5 (some 21) rfl ?_;refine YGb 6 (some 22) rfl (fun w9 hSw=>IX2.out w9) ?_;refine YGd 7 (some 23) _ rfl (fun w9 hSw=>by have q0:=(hSw.cell (p:=⟨b2,o2,none⟩) hB2).trans d0;have q1:=(hSw.cell (p:=⟨b2,o2+1,none⟩) hB2).trans d1;have q2:=(hSw.cell (p:=⟨b2,o2+2,none⟩) hB2).trans d2;have q3:=(hSw.cell (p:=⟨b2,o2+3,none⟩) hB2).trans d3;go_simp;try with_reducible rfl) ?_;refine YGd 8 (some 24) _ rfl (fun w9 hSw=>by go_simp;rw[fl_if HNE.out];try with_reducible rfl) ?_;refine wpG_done (by kernel_rfl) ?_ _;intro w9 hSw _;have B9:=Yy (HBR.out.trans (hSw.mono HBR.out.size));clear hSw c0 c1 c2 c3 d0 d1 d2 d3;go_wp2;go_ret;exact⟨by rw[HF.out];rfl,B9.out⟩
   ·obtain rfl:k=len1:=by omega
    rw[List.drop_eq_nil_of_le (by rw[HL1.out];exact Nat.le_refl _),List.drop_eq_nil_of_le (by rw[HL2.out];exact Nat.le_refl _)]at hf;have HF:=Yy hf;have HB:=Yy hb;clear hf hb;go_wp2;go_ret;exact⟨by rw[HF.out];simp,HB.out⟩
 ·have HF:=Yy (show decide (fs=gs)=false by rw[decide_eq_false_iff_not];intro e;apply hl;rw[← HL1.out,← HL2.out,e]);have hne:¬ (len1:Int)=(len2:Int):=by omega
  have HB0:=Yy (Below.refl w.heap.size w);go_enter Tryz.func88,Tryz.ntmps88;go_wp2;go_ret;exact⟨by rw[HF.out];rfl,HB0.out⟩
end
section
open Go.RowKit WM
theorem same_pair {n r m s:Int} (w:World):(Op.equalIn 10000 33 (.agg #[.int .i64 n,.int .i64 r]) (.agg #[.int .i64 m,.int .i64 s])).run Tryz.prog w=.ok (decide (n=m∧r=s)) w:=by
 by_cases h1:n=m
 ·subst h1;by_cases h2:r=s
  ·subst h2;go_simp
  ·go_simp
 ·go_simp
noncomputable def rsame (z1:List Int) (n1 r1:Int) (f1:List Fld) (z2:List Int) (n2 r2:Int) (f2:List Fld):Bool:=(z1 == z2) && decide (n1=n2∧r1=r2) && decide (f1=f2)
theorem Tta44 {p:Prop} (h:p:=by
  go_enter Tryz.func56,Tryz.ntmps56;go_wp2_with (first | ((with_reducible refine YyL 31 (.tmp 5) ⟨w.heap.size,0,none⟩ L1.out ?_ ?_ ?_);rfl;rfl) | ((with_reducible refine YyL 31 (.tmp 7) ⟨w.heap.size+1,0,none⟩ L2.out ?_ ?_ ?_);rfl;rfl));go_ret;exact⟨by rw[HV.out];rfl,HB.out⟩
 ):p:=h
theorem rsame_any (z1:List Int) (n1 r1:Int) (A1:Option Addr) (l1 c1:Nat) (f1:List Fld) (z2:List Int) (n2 r2:Int) (A2:Option Addr) (l2 c2:Nat) (f2:List Fld) (w:World)
  (hz1:z1.length=16) (hz2:z2.length=16) (hb1:AllBytes z1) (hb2:AllBytes z2) (hl1:f1.length=l1) (hl2:f2.length=l2) (h1:FsAt w A1 c1 f1) (h2:FsAt w A2 c2 f2):
  Calls Tryz.prog 56 #[rv z1 n1 r1 (.slice A1 l1 c1),rv z2 n2 r2 (.slice A2 l2 c2)] w fun e w'=>e=.returned (.bool (rsame z1 n1 r1 f1 z2 n2 r2 f2))∧Below w.heap.size w w':=by
 have S1:=(RcAt.new w hz1 n1 r1 (.slice A1 l1 c1)).old (.cells (rcells z2 n2 r2 (.slice A2 l2 c2)) 36);have S2:=RcAt.new (w.alloc (.cells (rcells z1 n1 r1 (.slice A1 l1 c1)) 36)) hz2 n2 r2 (.slice A2 l2 c2);rw[World.size_alloc]at S2;have HB:=((Below.refl w.heap.size w).alloc Nl (.cells (rcells z1 n1 r1 (.slice A1 l1 c1)) 36)).alloc (by simp) (.cells (rcells z2 n2 r2 (.slice A2 l2 c2)) 36);have HC:=Yy (equal_any A1 A2 l1 l2 c1 c2 f1 f2 _ hl1 hl2 (h1.below HB Nl) (h2.below HB Nl));have HE:=eq_id hb1 hb2 hz1 hz2;have L1:=Yy (load_id S1);have L2:=Yy (load_id S2);have a6:=S1.c16;have a7:=S1.c17;have a8:=S1.c18;have b6:=S2.c16;have b7:=S2.c17;have b8:=S2.c18;have HB:=Yy HB;clear S1 S2 h1 h2 hl1 hl2;have SP:=@same_pair n1 r1 n2 r2;have HV:Hid (rsame z1 n1 r1 f1 z2 n2 r2 f2=((z1 == z2) && decide (n1=n2∧r1=r2) && decide (f1=f2))):=Yy rfl;generalize rsame z1 n1 r1 f1 z2 n2 r2 f2=V at *;unfold rv;cases hz:(z1 == z2)
 ·rw[hz]at HE HV;simp only[Bool.false_and]at HV;clear hz;exact Tta44
 ·rw[hz]at HE HV;simp only[Bool.true_and]at HV;clear hz;cases hd:decide (n1=n2∧r1=r2)
  ·rw[hd]at SP HV;simp only[Bool.false_and]at HV;clear hd;exact Tta44
  ·rw[hd]at SP HV;simp only[Bool.true_and]at HV;clear hd;go_enter Tryz.func56,Tryz.ntmps56;go_wp2_with (first | ((with_reducible refine YyL 31 (.tmp 5) ⟨w.heap.size,0,none⟩ L1.out ?_ ?_ ?_);rfl;rfl) | ((with_reducible refine YyL 31 (.tmp 7) ⟨w.heap.size+1,0,none⟩ L2.out ?_ ?_ ?_);rfl;rfl));refine HC.out.mono ?_;rintro e w2 ⟨rfl,hb⟩;have bw:=Yy (HB.out.trans (hb.mono HB.out.size));clear hb;go_wp2;go_ret;exact⟨by rw[HV.out];rfl,bw.out⟩
end
end
section
open Go.RowKit WM
def z16:List Int:=List.replicate 16 0
theorem z16_len:z16.length=16:=rfl
theorem z16_bytes:AllBytes z16:=by unfold AllBytes z16;decide
theorem zeroRec (w:World):(zeroValue 36).run Tryz.prog w=.ok (rv z16 0 0 (.slice none 0 0)) w:=(zero_of_info (show (Tryz.prog.info? 36).map (fun i=>(i.zero,i.size))=some (some (rv z16 0 0 (.slice none 0 0)),19) by kernel_rfl)).1 w
theorem list16 {z:List Int} (h:z.length=16):∃ a b c d e f g i j k l m n o p q,z=[a,b,c,d,e,f,g,i,j,k,l,m,n,o,p,q]:=by
 match z,h with
 | [a,b,c,d,e,f,g,i,j,k,l,m,n,o,p,q],_=>exact⟨a,b,c,d,e,f,g,i,j,k,l,m,n,o,p,q,rfl⟩
theorem built_none:Tryz.prog.built 36 []=some (rcells z16 0 0 (.slice none 0 0)):=by kernel_rfl
theorem Tta95 {p:Prop} (h:p:=by
  obtain⟨a,b,c,d,e,f,g,i,j,k,l,m,n',o,p,q,rfl⟩:=list16 h
  kernel_rfl
 ):p:=h
theorem built_rec {z:List Int} (h:z.length=16) (n r:Int):Tryz.prog.built 36 [(0,.agg (bvals z)),(1,.agg #[.int .i64 n,.int .i64 r])]=some (rcells z n r (.slice none 0 0)):=by
 exact Tta95
theorem build_none (w:World):(Instr.build 36 #[]).run Tryz.prog w=.ok (rv z16 0 0 (.slice none 0 0)) w:=run_build w _ _ _ built_none
theorem build_rec {z:List Int} (h:z.length=16) (n r:Int) (w:World):(Instr.build 36 #[(0,.agg (bvals z)),(1,.agg #[.int .i64 n,.int .i64 r])]).run Tryz.prog w=.ok (rv z n r (.slice none 0 0)) w:=run_build w _ _ _ (built_rec h n r)
theorem rcells_one {z:List Int} {n r:Int} {v:Value} (hv:v.oneCell'=true):(rcells z n r v).all (·.oneCell')=true:=by
 rw[Array.all_eq_true_iff_forall_mem];intro u hu;simp only[rcells,List.mem_toArray,List.mem_append,List.mem_map,List.mem_cons,List.not_mem_nil,or_false]at hu;rcases hu with ⟨x,_,rfl⟩ | rfl | rfl | rfl
 ·rfl
 ·rfl
 ·rfl
 ·exact hv
theorem size_rcells {z:List Int} (hz:z.length=16) (n r:Int) (v:Value):(Tryz.prog.info? 36).map (·.size)=some (rcells z n r v).size:=by rw[rcells_size hz];exact sizeRec
theorem RcAt.putAll {w:World} {b:Nat} {z y:List Int} {n r m s:Int} {v u:Value} (h:RcAt w b z n r v) (hy:y.length=16):RcAt (w.setRow b (rcells y m s u)) b y m s u:=⟨hy,setRow_heap w b _ _ _ _ h.2⟩
theorem res_rc {fn:Func} {p:Tmp} (h:fn.results=#[.cell p 36]) {tmps:Array Value} {w:World} {b:Nat} {z:List Int} {n r:Int} {v:Value} (hp:tmps.getD p undef=.pointer (some ⟨b,0,none⟩)) (hs:RcAt w b z n r v):
  (results fn tmps).run Tryz.prog w=.ok (rv z n r v) w:=by
 have hp':tmps[p]?.getD undef=.pointer (some ⟨b,0,none⟩):=by simpa using hp
 simp[results,h,hp',asAddr,load_rec hs]
theorem res_rc2 {fn:Func} {p q:Tmp} (h:fn.results=#[.cell p 36,.tmp q]) {tmps:Array Value} {w:World} {b:Nat} {z:List Int} {n r:Int} {v:Value} (hp:tmps.getD p undef=.pointer (some ⟨b,0,none⟩)) (hs:RcAt w b z n r v):
  (results fn tmps).run Tryz.prog w=.ok (.tuple #[rv z n r v,tmps.getD q undef]) w:=by
 have hp':tmps[p]?.getD undef=.pointer (some ⟨b,0,none⟩):=by simpa using hp
 simp[results,h,hp',asAddr,load_rec hs]
theorem RcAt.hp {w:World} {b:Nat} {z:List Int} {n r:Int} {v:Value} (h:RcAt w b z n r v):w.heap[b]?=some (.cells (rcells z n r v) 36):=h.2
theorem exec_load_by {P:Program} {o:Oper} {ρ:Operand→Value} {w:World} (ty:TypeId) (x:Operand) (ho:o.op=.load ty x) (ad:Addr) (hx:ρ x=.pointer (some ad)) {v:Value} (hv:(loadVar ty ad).run P w=.ok v w):
  (execOp ρ o).run P w=.ok (.value v) w:=by
 unfold execOp;simp only[ho,hx,Instr.loadAt,Instr.sureAddr,Sem.run_bind,Sem.run_pure,Result.andThen_ok,hv]
theorem exec_build_by {P:Program} {o:Oper} {ρ:Operand→Value} {w:World} (t:TypeId) (parts:Array (Nat×Operand)) (ho:o.op=.build t parts) (ps:Array (Nat×Value)) (hp:parts.map (fun x=>(x.1,ρ x.2))=ps) {v:Value}
  (hv:(Instr.build t ps).run P w=.ok v w):(execOp ρ o).run P w=.ok (.value v) w:=by
 unfold execOp;simp only[ho];have e:parts.map (fun x=>match x with | (i,x)=>(i,ρ x))=ps:=hp;rw[e];simp[hv]
theorem exec_store_row {P:Program} {o:Oper} {ρ:Operand→Value} {w:World} (ty:TypeId) (x y:Operand) (ho:o.op=.store ty x y) (g:Nat) (cells:Array Value) (hx:ρ x=.pointer (some ⟨g,0,none⟩)) (hy:ρ y=.agg cells)
  (t:TypeId) (old:Array Value) (hg:w.heap[g]?=some (.cells old t (0,0))) (hi:(P.info? ty).map (·.size)=some cells.size) (hold:old.size=cells.size) (h1:cells.all (·.oneCell')=true):
  (execOp ρ o).run P w=.ok .skip (w.setRow g cells):=by
 unfold execOp;simp only[ho,hx,hy,Instr.storeAt,Instr.sureAddr,Sem.run_bind,Sem.run_pure,Result.andThen_ok,run_storeVar_row w g t ty old cells hg hi hold h1]
structure Rc where
 z:List Int
 n:Int
 r:Int
 fs:List Fld
def rc0:Rc:=⟨z16,0,0,[]⟩
def Rc.v (R:Rc) (A:Option Addr) (c:Nat):Value:=rv R.z R.n R.r (.slice A R.fs.length c)
def Rc.Ok (R:Rc):Prop:=R.z.length=16∧AllBytes R.z
def Rc.may (R:Rc):Bool:=rmay R.n R.r R.fs
theorem okFrom_len (n r:Int):∀ (fs:List Fld) (m:Int),okFrom n r m fs=true→0≤m→m≤8→(fs.length:Int)+m≤8
 | [],m,_,_,h=>by simpa using h
 | f::fs,m,h,h0,h8=>by
  simp only[okFrom,Bool.and_eq_true,decide_eq_true_eq]at h;have:=okFrom_len n r fs (f.no+1) h.2 (by omega) (by omega);simp only[List.length_cons];omega
theorem okFrom_all (n r:Int):∀ (fs:List Fld) (m:Int),okFrom n r m fs=true→0≤m→∀ f∈fs,m≤f.no∧f.no<8∧cmay f.c=true∧stLess n r f.c.n f.c.r=true
 | [],_,_,_,f,hf=>by cases hf
 | g::fs,m,h,h0,f,hf=>by
  simp only[okFrom,Bool.and_eq_true,decide_eq_true_eq]at h;rcases List.mem_cons.1 hf with rfl | hf
  ·exact⟨h.1.1.1.1,h.1.1.1.2,h.1.1.2,h.1.2⟩
  ·obtain⟨h1,h2⟩:=okFrom_all n r fs (g.no+1) h.2 (by omega) f hf;exact⟨by omega,h2⟩
theorem rmay_okFrom {n r:Int} {fs:List Fld} (h:rmay n r fs=true):okFrom n r 0 fs=true:=by
 simp only[rmay,Bool.and_eq_true]at h;exact h.2
theorem rmay_len {n r:Int} {fs:List Fld} (h:rmay n r fs=true):fs.length≤8:=by
 have:=okFrom_len n r fs 0 (rmay_okFrom h) (by omega) (by omega);omega
theorem rmay_all {n r:Int} {fs:List Fld} (h:rmay n r fs=true):∀ f∈fs,0≤f.no∧f.no<8∧cmay f.c=true∧stLess n r f.c.n f.c.r=true:=okFrom_all n r fs 0 (rmay_okFrom h) (by omega)
end
section
open Go.RowKit WM
def zfld:Value:=.agg #[.int .i64 0,.int .i64 0,.int .i64 0,.string ⟨#[]⟩]
theorem infoFld:(Tryz.prog.info? 59).map (fun i=>(i.zero,i.size,i.bytes))=some (some zfld,4,40):=by kernel_rfl
theorem flds_one (fs:List Fld):∀ u∈fs.flatMap Fld.cs,u.oneCell'=true:=by
 intro u hu;obtain⟨f,_,hf⟩:=List.mem_flatMap.1 hu;simp only[Fld.cs,List.mem_cons,List.not_mem_nil,or_false]at hf;rcases hf with rfl | rfl | rfl | rfl<;>rfl
theorem flds_len (fs:List Fld):(fs.flatMap Fld.cs).length=fs.length*4:=by
 induction fs with
 | nil=>rfl
 | cons f fs ih=>rw[List.flatMap_cons,List.length_append,ih,List.length_cons,show f.cs.length=4 from rfl];omega
theorem flds_at {fs:List Fld} {i j:Nat} (hi:i<fs.length) (hj:j<4):(fs.flatMap Fld.cs)[i*4+j]?=(fs.getD i fld0).cs[j]?:=by
 induction fs generalizing i with
 | nil=>simp at hi
 | cons x fs ih=>
  cases i with
  | zero=>
   exact Tta83
  | succ i=>
   simp only[List.flatMap_cons,List.getD_cons_succ];rw[List.getElem?_append_right (by simp[Fld.cs];omega)];have e:(i+1)*4+j - x.cs.length=i*4+j:=by simp[Fld.cs];omega
   rw[e];exact ih (by simpa using hi)
theorem wpList_append_fld {P:Program} (w:World) {ops:Array Oper} {rest:List Oper} {o:Oper} {a:Act} {Q:Exit→Act→World→Prop} (hgd:o.guard=none) (s x:Operand) (t:TypeId)
  (ho:o.op=.call { callee:=.builtin .append,args:=#[s,x],argTypes:=#[t,t]})
  (base:Nat) (e:TypeId) (i:TypeInfo) (ht:P.underlying t=some (.slice e)) (hi:P.info? e=some i) (hz:i.zero=some zfld) (hsize:i.size=4) (hby:i.bytes=40)
  (v:Value) (n:Nat) (gs:List Fld) (hs:a.eval s=v) (hown:w.ownsRow base e 4 v n (gs.flatMap Fld.cs))
  (A:Option Addr) (m c:Nat) (fs:List Fld) (hx:a.eval x=.slice A m c) (hr:FsAt w A c fs) (hl:fs.length=m) (hlen:n+m≤100000) (hbase:base≤w.heap.size)
  (h:∀ v' w',w'.ownsRow base e 4 v' (n+m) ((gs++fs).flatMap Fld.cs)→w.grownBy w' v.ownBlock→wpList P ops Q rest (a.put o.dst v') w'):wpList P ops Q (o::rest) a w:=by
 have fin:∀ ad:Addr,A=some ad→(∀ j u,(fs.flatMap Fld.cs)[j]?=some u→w.cell? (ad.add j)=some u)→wpList P ops Q (o::rest) a w:=by
  intro ad hA hc;subst hA;refine wpList_append_own w hgd s x t ho base e i zfld 4 40 ht hi hz hsize hby rfl (by omega) v n _ hs hown ad m c (fs.flatMap Fld.cs) hx (by rw[flds_len,hl]) hc (flds_one fs) (by simp only[maxLen];omega) (by omega) hbase ?_;exact Tta93
 obtain⟨h1,h2,h3,h4⟩:=hr;by_cases hn:fs=[]
 ·subst hn;cases A with
  | none=>
   have hc0:=h3 rfl;simp at hl;subst hl;subst hc0;refine wpList_append_own_none hgd s x t ho base e i 4 ht hi v n _ hs hown hx ?_;exact h v w (by simpa using hown) (World.grownBy.refl w _)
  | some ad=>exact fin ad rfl (fun j u hj=>by simp at hj)
 ·obtain⟨b,off,hA,_,hc⟩:=h4 (List.length_pos_iff.2 hn);refine fin _ hA (fun j u hj=>?_);have hjl:=(List.getElem?_eq_some_iff.1 hj).1;rw[flds_len]at hjl;have hij:j=j / 4*4+j % 4:=by omega
  have hi':j / 4<fs.length:=by omega
  rw[hij,flds_at hi' (by omega)]at hj;obtain⟨c0,c1,c2,c3⟩:=hc (j / 4) hi';rw[Addr.add_lit];have hm:j % 4=0∨j % 4=1∨j % 4=2∨j % 4=3:=by omega
  rcases hm with hm | hm | hm | hm
  ·rw[hm]at hj;rw[show off+j=off+j / 4*4 by omega,c0];exact hj
  ·rw[hm]at hj;rw[show off+j=off+j / 4*4+1 by omega,c1];exact hj
  ·rw[hm]at hj;rw[show off+j=off+j / 4*4+2 by omega,c2];exact hj
  ·rw[hm]at hj;rw[show off+j=off+j / 4*4+3 by omega,c3];exact hj
def GrowPost (w:World) (e:Ending) (w':World):Prop:=∃ v,e=.returned v∧w'.ownsRow w.heap.size 59 4 v 0 []∧Below w.heap.size w w'
theorem slf_h (A:Option Addr) (len cap h:Nat) (h2:h≤cap) (H:Int) (eH:H=h) (w:World):(Instr.slice 34 (.slice A len cap) none (some (.int .i64 H)) none).run Tryz.prog w=.ok (.slice A h cap) w:=by
 subst eH;rw[run_slice_h w 34 _ len cap (by rw[elemFld];exact Tryz.underlying34) .i64 h (by omega) (by omega),elemFld,sizeFld];exact Tta74
theorem Tta82 {p:Prop} (h:p:=by
  go_wp2_with (at_builtin;refine Lib.wpList_append_run _ rfl _ _ _ _ rfl _ _ rfl rfl _ _ happ ?_);go_ret;exact⟨_,rfl,HO.out,HB.out⟩
 ):p:=h
theorem grow_any (n:Nat) (w:World) (hn:n≤1000):Calls Tryz.prog 127 #[.slice none 0 0,.int .i64 n] w (GrowPost w):=by
 by_cases h0:n=0
 ·subst h0;go_enter Tryz.func127,Tryz.ntmps127;go_wp2;go_ret;exact⟨_,rfl,World.ownsRow_nil _ _ _ _,Below.refl _ _⟩
 ·obtain⟨i0,hi,hz0,hz1,hz2⟩:=info_parts infoFld;have happ:=Lib.run_append_nil_zeros (P:=Tryz.prog) w 34 3 34 59 i0 zfld .i64 .i64 Tryz.underlying34 Tryz.underlying3 hi hz0 n (by omega) (by omega) (by omega) (by rw[hz2];omega);have hg:=grownCap_ge w n 0 59;have hm:=grownCap_le_maxLen w n 0 59 (by simp only[maxLen];omega);generalize grownCap w n 0 59=C at happ hg hm;have hs:(Builtin.zeroCells zfld.cells n++Builtin.zeroCells zfld.cells (C - n)).size=C*4:=by
   rw[Array.size_append,size_zeroCells,size_zeroCells,show zfld.cells.size=4 from rfl];omega
  generalize Builtin.zeroCells zfld.cells n++Builtin.zeroCells zfld.cells (C - n)=Z at happ hs;have HO:=Yy (World.ownsRow_made (base:=w.heap.size) (size:=4) (e:=59) w.drew Z C Nl hm hs);have HB:=Yy (((Below.refl w.heap.size w).drew).alloc Nl (.cells Z 59));have s1:=slf_h none 0 0 0 Nl 0 rfl;have s2:=slf_h (some ⟨w.heap.size,0,none⟩) n C 0 (Nat.zero_le _) 0 rfl;have t1:¬ (n:Int)<0:=by omega
  have t2:(0:Int)<(n:Int):=by omega
  simp only[maxLen]at hm;clear hs h0;go_enter Tryz.func127,Tryz.ntmps127;exact Tta82
def ConcatPost (w:World) (fs:List Fld) (e:Ending) (w':World):Prop:=∃ A n c,e=.returned (.slice A n c)∧fs.length=n∧FsAt w' A c fs∧Below w.heap.size w w'
theorem concat_own {w w':World} {v:Value} {n:Nat} {fs:List Fld} (hl:fs.length=n) (ho:w'.ownsRow w.heap.size 59 4 v n (fs.flatMap Fld.cs)) (hb:Below w.heap.size w w'):ConcatPost w fs (.returned v) w':=by
 subst hl;have ho':=ho;rcases ho.2 with ⟨rfl,h0⟩ | ⟨g,cap,cur,rfl,_⟩
 ·rw[h0]at ho';exact⟨none,0,0,rfl,h0,FsAt.own (base:=w.heap.size) (by rw[h0];exact ho'),hb⟩
 ·exact⟨_,_,cap,rfl,rfl,FsAt.own ho',hb⟩
theorem concat_any (g:Nat) (A1 A2:Option Addr) (l1 l2 c1 c2:Nat) (f1 f2:List Fld) (w:World) (hg:g<w.heap.size) (hg0:w.cell? ⟨g,0,none⟩=some (.slice A1 l1 c1)) (hg1:w.cell? ⟨g,1,none⟩=some (.slice A2 l2 c2))
  (hl1:f1.length=l1) (hl2:f2.length=l2) (h1:FsAt w A1 c1 f1) (h2:FsAt w A2 c2 f2) (hs:l1+l2≤1000):
  Calls Tryz.prog 111 #[.slice (some ⟨g,0,none⟩) 2 2] w (ConcatPost w (f1++f2)):=by
 have HG:=Yy (grow_any (l1+l2));rw[Int.natCast_add]at HG;unfold GrowPost at HG;have t1:¬ (l1:Int)<0:=by omega
 have t2:¬ (l1:Int)+(l2:Int)<0:=by omega
 obtain⟨i0,hi,hz0,hz1,hz2⟩:=info_parts infoFld;have HL1:=Yy hl1;have HL2:=Yy hl2;have H1:=Yy h1;have H2:=Yy h2;clear hl1 hl2 h1 h2;go_enter Tryz.func111,Tryz.ntmps111;go_wp2;refine wp_loop_rounds 3 ?_;rw[rounds_succ];go_wp2;rw[rounds_succ];go_wp2;rw[rounds_succ];go_wp2_with fail;refine (HG.out _ hs).mono ?_;rintro e w1 ⟨v,rfl,ho,hb⟩;have G1:=Yy hg1;have hg0:=(hb.cell (p:=⟨g,0,none⟩) hg).trans hg0;have hg1:=(hb.cell (p:=⟨g,1,none⟩) hg).trans hg1;have F1:=Yy (H1.out.below hb Nl);have HB:=Yy hb;clear hb hg1;go_wp2;refine wp_loop_rounds 3 ?_;rw[rounds_succ];go_wp2_with (at_builtin;refine wpList_append_fld _ rfl _ _ 34 rfl w.heap.size 59 i0 Tryz.underlying34 hi hz0 hz1 hz2 _ 0 [] rfl ho A1 l1 c1 f1 rfl F1.out HL1.out (by omega) HB.out.size ?_;intro v2 w2 ho2 hg2);have HB2:=HB.out.grown hg2 HB.out.size (fun g hg=>own_base ho hg);have hg1:=(HB2.cell (p:=⟨g,1,none⟩) hg).trans G1.out;have F2:=Yy (H2.out.below HB2 Nl);have HB2:=Yy HB2;clear hg2 hg0;rw[List.nil_append]at ho2;rw[rounds_succ];go_wp2_with (at_builtin;refine wpList_append_fld _ rfl _ _ 34 rfl w.heap.size 59 i0 Tryz.underlying34 hi hz0 hz1 hz2 _ _ f1 rfl ho2 A2 l2 c2 f2 rfl F2.out HL2.out (by omega) HB2.out.size ?_;intro v3 w3 ho3 hg3);have HB3:=Yy (HB2.out.grown hg3 HB2.out.size (fun g hg=>own_base ho2 hg));have HO3:=Yy ho3;clear hg3 hg1 ho ho2 ho3;rw[rounds_succ];go_wp2;go_ret;exact concat_own (by rw[List.length_append,HL1.out,HL2.out];omega) HO3.out HB3.out
end
section
section
open Go.RowKit WM
theorem cel_inj {a b:Cel} (h:a.v=b.v):a=b:=by
 obtain⟨n,r,s⟩:=a;obtain⟨m,q,t⟩:=b;simp only[Cel.v,Value.agg.injEq]at h;cases h
 rfl
def celD (c:Cel):DataW Unit:=.agg [.lit (.int .i64 c.n),.lit (.int .i64 c.r),.lit (.string c.s.data.toList)]
theorem celD_inj {a b:Cel} (h:celD a=celD b):a=b:=by
 obtain⟨n,r,⟨s⟩⟩:=a;obtain⟨m,q,⟨t⟩⟩:=b;simp only[celD,DataW.agg.injEq,List.cons.injEq,DataW.lit.injEq,Lit.int.injEq,Lit.string.injEq,true_and,and_true,Array.toList_inj]at h;obtain⟨rfl,rfl,rfl⟩:=h
 rfl
open Classical in
noncomputable def celR (v:Value):Option (DataW Unit×List MemPlace):=if h:∃ c:Cel,v=c.v then some (celD h.choose,[]) else none
theorem celR_mk (c:Cel):celR c.v=some (celD c,[]):=by
 have h:∃ d:Cel,c.v=d.v:=⟨c,rfl⟩;rw[celR,dif_pos h,← cel_inj h.choose_spec]
theorem celR_inv {v:Value} {c:Cel} {ps:List MemPlace} (h:celR v=some (celD c,ps)):v=c.v:=by
 unfold celR at h
 split at h
 ·rename_i hh
  simp only[Option.some.injEq,Prod.mk.injEq]at h;rw[hh.choose_spec,celD_inj h.1]
 ·cases h
def MIs (w:World) (b n:Nat) (f:Int→Option Cel):Prop:=
 ∃ D:DataW Unit,w.ownsMap Tryz.prog 3 celR b n D∧∀ k:Int,Maps.has D (.int .i64 k)=(f k).isSome∧D.atKey (.int .i64 k) (celD cel00)=celD ((f k).getD cel00)
theorem keyI:Maps.Keyed Tryz.prog 3:=Maps.int_keyed Tryz.underlying3
theorem zeroCel (w:World):(zeroValue 38).run Tryz.prog w=.ok cel00.v w:=(zero_of_info (show (Tryz.prog.info? 38).map (fun i=>(i.zero,i.size))=some (some cel00.v,3) by kernel_rfl)).1 w
theorem MIs.lt {w:World} {b n:Nat} {f:Int→Option Cel} (h:MIs w b n f):b<w.heap.size:=by obtain⟨D,h,_⟩:=h;exact h.lt
theorem MIs.same {w w':World} {b n:Nat} {f:Int→Option Cel} (h:MIs w b n f) (hb:w'.heap[b]?=w.heap[b]?):MIs w' b n f:=by
 obtain⟨D,⟨es,clock,hh,r⟩,h2⟩:=h;exact⟨D,⟨es,clock,hb.trans hh,r⟩,h2⟩
theorem MIs.below {w w':World} {b n B:Nat} {f:Int→Option Cel} (h:MIs w b n f) (hb:Below B w w') (hB:b<B):MIs w' b n f:=h.same (hb.block b hB)
theorem MIs.made (w:World):MIs (w.alloc (.map #[] 0)) w.heap.size 0 (fun _=>none):=
 ⟨.map [],World.ownsMap_made w _ _ _,fun k=>⟨rfl,Maps.atKey_of_not_has rfl _⟩⟩
theorem Tta94 {p:Prop} (h:p:=by
  simp[Lit.wf,IntKind.min,IntKind.max,IntKind.bits,IntKind.signed];omega
 ):p:=h
theorem wf_i64 {k:Int} (h0:-9223372036854775808≤k) (h1:k≤9223372036854775807):(Lit.int .i64 k).wf=true:=by
 exact Tta94
theorem MIs.look {w:World} {b n:Nat} {f:Int→Option Cel} (h:MIs w b n f) {k:Int} (hk:(Lit.int .i64 k).wf=true):
  (Instr.lookup 142 (.map (some b)) (.int .i64 k) true).run Tryz.prog w=.ok (.tuple #[((f k).getD cel00).v,.bool (f k).isSome]) w:=by
 obtain⟨D,h1,h2⟩:=h;obtain⟨v,ps,hr,hv⟩:=h1.look_ok keyI Tryz.underlying142 (zeroCel w) (celR_mk cel00) (Maps.keyOf_int_mk Tryz.underlying3 hk);rw[(h2 k).2]at hv;rw[hr,(h2 k).1,celR_inv hv]
theorem MIs.store {w:World} {b n:Nat} {f:Int→Option Cel} (h:MIs w b n f) (hn:n<1000) {k:Int} (hk:(Lit.int .i64 k).wf=true) (c:Cel):
  ∃ w',(Instr.mapUpdate 142 (.map (some b)) (.int .i64 k) c.v).run Tryz.prog w=.ok () w'∧MIs w' b (n+1) (fun j=>if j=k then some c else f j)∧w.grownBy w' (some b):=by
 obtain⟨D,h1,h2⟩:=h;obtain⟨w',hr,ho,hg⟩:=h1.update keyI Tryz.underlying142 (by simp only[maxLen];omega) (Maps.keyOf_int_mk Tryz.underlying3 hk) (celR_mk c);refine⟨w',hr,⟨_,ho,fun j=>?_⟩,hg⟩;dsimp only;by_cases hj:j=k
 ·subst hj;rw[if_pos rfl];exact⟨Maps.has_put_same h1.isMap (by simp[WideAt.IsKeyLit]) _,Maps.atKey_put_same h1.isMap (by simp[WideAt.IsKeyLit]) _ _⟩
 ·rw[if_neg hj];have hne:(Lit.int .i64 j)≠(.int .i64 k):=fun e=>hj (by simpa using e);rw[Maps.has_put_other hne,Maps.atKey_put_other hne];exact h2 j
theorem wpList_mapUpdate_cel {w:World} {ops:Array Oper} {rest:List Oper} {o:Oper} {a:Act} {Q:Exit→Act→World→Prop} (hgd:o.guard=none) (m x v:Operand) (hop:o.op=Op.mapUpdate 142 m x v)
  (b n:Nat) (f:Int→Option Cel) (k:Int) (c:Cel) (hm:a.eval m=.map (some b)) (hx:a.eval x=.int .i64 k) (hv:a.eval v=c.v) (h:MIs w b n f) (hn:n<1000) (hk:(Lit.int .i64 k).wf=true)
  (hK:∀ w',MIs w' b (n+1) (fun j=>if j=k then some c else f j)→w.grownBy w' (some b)→wpList Tryz.prog ops Q rest (a.put o.dst undef) w'):wpList Tryz.prog ops Q (o::rest) a w:=by
 refine wpList_plain hgd fun K' hK'=>?_;obtain⟨w',hrun,r1,r2⟩:=h.store hn hk c;unfold Oper.wp;simp[execOp,hop,hm,hx,hv,hrun,Result.andThen];exact hK' _ _ (hK w' r1 r2)
end
section
open Go.RowKit WM
def gone (o:Option Cel) (c:Cel):Cel:=match o with | some d=>cjoin d c | none=>c
def gstep (f:Int→Option Cel) (x:Fld):Int→Option Cel:=fun j=>if j=x.no then some (gone (f x.no) x.c) else f j
def gath (fs:List Fld):Int→Option Cel:=fs.foldl gstep (fun _=>none)
theorem gath_snoc {fs:List Fld} {k:Nat} (hk:k<fs.length):gath (fs.take (k+1))=gstep (gath (fs.take k)) (fs.getD k fld0):=by
 rw[List.take_succ_eq_append_getElem hk,gath,List.foldl_append];simp only[List.foldl_cons,List.foldl_nil,List.getD,List.getElem?_eq_getElem hk,Option.getD_some]
 rfl
def Small (f:Int→Option Cel):Prop:=∀ j c,f j=some c→c.s.size≤300
theorem gone_small {o:Option Cel} {c:Cel} (ho:∀ d,o=some d→d.s.size≤300) (hc:c.s.size≤300):(gone o c).s.size≤300:=by
 cases o with
 | none=>exact hc
 | some d=>exact cjoin_size (ho d rfl) hc
theorem gstep_small {f:Int→Option Cel} {x:Fld} (hf:Small f) (hx:x.c.s.size≤300):Small (gstep f x):=by
 intro j c h;unfold gstep at h
 split at h
 ·cases h;exact gone_small (fun d hd=>hf _ d hd) hx
 ·exact hf j c h
theorem FlAt.put3 {w:World} {b:Nat} {f:Fld} (h:FlAt w b f) (c:Cel):FlAt (((w.setCell ⟨b,1,none⟩ (.int .i64 c.n)).setCell ⟨b,2,none⟩ (.int .i64 c.r)).setCell ⟨b,3,none⟩ (.string c.s)) b ⟨f.no,c⟩:=by
 unfold FlAt;rw[heap_setCell_same _ _ _ _ _ _ (heap_setCell_same _ _ _ _ _ _ (heap_setCell_same _ _ _ _ _ _ h))]
 rfl
theorem below_put3' {B:Nat} {a w:World} (h:Below B a w) {b:Nat} (hb:B≤b) (u v x:Value):Below B a (((w.setCell ⟨b,1,none⟩ u).setCell ⟨b,2,none⟩ v).setCell ⟨b,3,none⟩ x):=((h.setCell hb u).setCell hb v).setCell hb x
def GatherPost (w:World) (fs:List Fld) (e:Ending) (w':World):Prop:=∃ b n,e=.returned (.map (some b))∧w.heap.size≤b∧MIs w' b n (gath fs)∧Below w.heap.size w w'
theorem Tta62 {p:Prop} (h:p:=by
  clear hg5 hM5;go_roundw
  case rel=>exact⟨k+1,by omega,by go_num,by rw[HGS.out,HGV.out];exact HM5.out,by rw[HGS.out];exact HSM.out,HB5.out⟩
  case measure=>simp[intOf];omega
 ):p:=h
theorem gather_any (A:Option Addr) (len c:Nat) (fs:List Fld) (w:World) (hlaid:Laid w) (hl:fs.length=len) (hlen:len≤900) (h:FsAt w A c fs)
  (hfs:∀ i,i<len→(Lit.int .i64 (fs.getD i fld0).no).wf=true∧(fs.getD i fld0).c.s.size≤300):
  Calls Tryz.prog 110 #[.slice A len c] w (GatherPost w fs):=by
 obtain⟨hc1,hc2,hc3,hcell⟩:=h;simp only[maxLen]at hc2;have hmm:=@run_makeMap Tryz.prog;have HL:=Yy hl;have HC:=Yy hcell;have HW:=Yy hfs;have HLA:=Yy (fun (X:World) (hX:Below w.heap.size w X)=>hlaid.below hX Nl);have hlc:len≤c:=by omega
 have H0:=Yy (And.intro (MIs.made w) ((Below.refl w.heap.size w).alloc Nl (.map #[] 0)));clear hcell hc1 hl hfs hlaid;go_enter Tryz.func110,Tryz.ntmps110;go_wp2;go_loopw [11] (fun i wr=>∃ k:Nat,k≤len∧i=.int .i64 k∧MIs wr w.heap.size k (gath (fs.take k))∧Small (gath (fs.take k))∧Below w.heap.size w wr) (fun i _=>len - (intOf i).toNat)
 case atStart=>exact⟨0,Nat.zero_le _,rfl,H0.out.1,fun j c h=>by simp[gath]at h,H0.out.2⟩
 case round=>
  obtain⟨k,hk,rfl,hM,hS,hb⟩:=hrel;by_cases hlt:k<len
  ·obtain⟨b,off,rfl,hbB,hcc⟩:=HC.out (by rw[HL.out];omega);obtain⟨c0,c1,c2,c3⟩:=hcc k (by rw[HL.out];exact hlt);have c0:=(hb.cell (p:=⟨b,off+k*4,none⟩) hbB).trans c0;have c1:=(hb.cell (p:=⟨b,off+k*4+1,none⟩) hbB).trans c1;have c2:=(hb.cell (p:=⟨b,off+k*4+2,none⟩) hbB).trans c2;have c3:=(hb.cell (p:=⟨b,off+k*4+3,none⟩) hbB).trans c3;have IX:=ix_fld b off len c k hlt k rfl;have hgs:=gath_snoc (fs:=fs) (k:=k) (by rw[HL.out];exact hlt);have hww:=HW.out k hlt;generalize fs.getD k fld0=f at c0 c1 c2 c3 hgs hww;obtain⟨no,x⟩:=f;dsimp only at c0 c1 c2 c3 hww;generalize off+k*4=o at c0 c1 c2 c3 IX;have hlt2:=hM.lt;have hMF:=hM.below ((Below.refl wr.heap.size wr).alloc Nl (.cells #[.int .i64 no,.int .i64 x.n,.int .i64 x.r,.string x.s] 59)) hlt2;have LK:=hMF.look hww.1;have HGS:=Yy hgs;have HWF:=Yy hww;have HSM:=Yy (gstep_small (x:=⟨no,x⟩) hS hww.2);generalize gath (fs.take k)=g at hM hS hMF LK HGS HSM;have HB:=Yy hb;have HM:=Yy hM;have HS:=Yy hS;clear hcc hgs hww hM hMF hS hb;cases hg:g no with
   | none=>
    rw[hg]at LK;dsimp only[Option.getD_none,Option.isSome_none,Cel.v,cel00]at LK;have HGV:=Yy (show gstep g ⟨no,x⟩=fun j=>if j=no then some x else g j by unfold gstep;simp only[hg];rfl);have BN:=Yy (((Below.refl wr.heap.size wr).alloc Nl (.cells #[.int .i64 no,.int .i64 x.n,.int .i64 x.r,.string x.s] 59)).alloc (by simp) (.cells #[.int .i64 0,.int .i64 0,.string ⟨#[]⟩] 38));have MN:=Yy (HM.out.below BN.out hlt2);clear hg;go_wp2_with (at_mapUpdate;refine wpList_mapUpdate_cel rfl _ _ _ rfl w.heap.size k g no x rfl rfl rfl MN.out (by omega) HWF.out.1 ?_;intro w5 hM5 hg5);have HM5:=Yy hM5;have HBN:=Yy (HB.out.trans (BN.out.mono HB.out.size));have HB5:=Yy (HBN.out.grown hg5 HBN.out.size (fun k e=>by cases e;exact Nat.le_refl _));exact Tta62
   | some d=>
    rw[hg]at LK;dsimp only[Option.getD_some,Option.isSome_some,Cel.v]at LK;have HGV:=Yy (show gstep g ⟨no,x⟩=fun j=>if j=no then some (cjoin d x) else g j by unfold gstep;simp only[hg];rfl);have bN:=(((Below.refl wr.heap.size wr).alloc Nl (.cells #[.int .i64 no,.int .i64 x.n,.int .i64 x.r,.string x.s] 59)).alloc (by simp) (.cells #[.int .i64 d.n,.int .i64 d.r,.string d.s] 38));have BN:=Yy bN;have HBN:=Yy (HB.out.trans (bN.mono HB.out.size));have HJ:=Yy (cjoin_any d x _ (HLA.out _ HBN.out) (HS.out _ _ hg) HWF.out.2);have FN:=Yy ((FlAt.new wr ⟨no,x⟩).old (.cells #[.int .i64 d.n,.int .i64 d.r,.string d.s] 38));dsimp only[Cel.v]at FN HJ;generalize cjoin d x=y at HGV HJ;clear hg bN;go_wp2_with fail;refine HJ.out.mono ?_;rintro e w4 ⟨rfl,hb4⟩;have F4:=FN.out.below hb4 FN.out.lt;have e1:=F4.c1;have e2:=F4.c2;have e3:=F4.c3;have f1:=F4.fz 1;have f2:=F4.fz 2;have f3:=F4.fz 3;have F5:=F4.put3 y;have g0:=F5.c0;have g1:=F5.c1;have g2:=F5.c2;have g3:=F5.c3;have B4:=BN.out.trans (hb4.mono BN.out.size);have BP:=Yy (below_put3' B4 (Nat.le_refl wr.heap.size) (.int .i64 y.n) (.int .i64 y.r) (.string y.s));have MN:=Yy (HM.out.below BP.out hlt2);dsimp only at g0 g1 g2 g3;clear hb4 F4 F5 B4 c0 c1 c2 c3;go_wp2_with (at_mapUpdate;refine wpList_mapUpdate_cel rfl _ _ _ rfl w.heap.size k g no y rfl rfl rfl MN.out (by omega) HWF.out.1 ?_;intro w5 hM5 hg5);have HM5:=Yy hM5;have HBP:=Yy (HB.out.trans (BP.out.mono HB.out.size))
    have HB5:=Yy (HBP.out.grown hg5 HBP.out.size (fun k e=>by cases e;exact Nat.le_refl _));exact Tta62
  ·obtain rfl:k=len:=by omega
   rw[List.take_of_length_le (by rw[HL.out];exact Nat.le_refl _)]at hM;have HM:=Yy hM;have HB:=Yy hb;clear hM hb hS;go_wp2;go_ret;exact⟨_,_,rfl,Nat.le_refl _,HM.out,HB.out⟩
end
section
open Go.RowKit Go.Shelf WM
attribute [local go_sem] Oper.semAt_some
def riseL (f:Int→Option Cel):Nat→List (Int×Cel)
 | 0=>[]
 | k+1=>riseL f k++(match f k with | some c=>[((k:Int),c)] | none=>[])
theorem riseL_len (f:Int→Option Cel):∀ k,(riseL f k).length≤k
 | 0=>Nat.le_refl _
 | k+1=>by
  have:=riseL_len f k;rw[riseL,List.length_append];cases f k<;>simp<;>omega
theorem riseL_none {f:Int→Option Cel} {k:Nat} (h:f k=none):riseL f (k+1)=riseL f k:=by simp[riseL,h]
theorem riseL_some {f:Int→Option Cel} {k:Nat} {c:Cel} (h:f k=some c):riseL f (k+1)=riseL f k++[((k:Int),c)]:=by simp[riseL,h]
def encC (x:Int×Cel):Array Value:=#[.int .i64 x.1,x.2.v]
def Kp2 (Bx bm:Nat) (A B:World):Prop:=B.heap[Bx]?=A.heap[Bx]?∧B.heap[bm]?=A.heap[bm]?
def BoxM (w:World) (Bx bm:Nat):Prop:=w.heap[Bx]?=some (.cells #[.map (some bm)] 142)
theorem BoxM.lt {w:World} {Bx bm:Nat} (h:BoxM w Bx bm):Bx<w.heap.size:=(Array.getElem?_eq_some_iff.1 h).1
theorem Tta85 {p:Prop} (h:p:=by
  have HX:=Yy hJx3;clear hJx3;gi_wp2;refine bodyPost_ret (results_none rfl _ _ _) rfl ?_;exact⟨⟨_,rfl⟩,.inr ⟨_,trivial,HX.out⟩⟩
 ):p:=h
theorem rise1_in (n:Nat) (hn:1≤n) (l Bx bm N:Nat) (f:Int→Option Cel) (J Jx:List (Int×Cel)→World→Prop) (W:World) (hJ:AbidesFrom W.heap.size J)
  (hY:∀ pre x W,J pre W→pre.length<8→YieldAt Fence.wide (n - 1) Tryz.prog l (encC x) W fun e W'=>
   (e=.returned (.bool true)∧J (pre++[x]) W'∧Kp2 Bx bm W W')∨(e=.returned (.bool false)∧Jx (pre++[x]) W'))
  (hBx:BoxM W Bx bm) (hM:MIs W bm N f) (h0:J [] W):
  CallsIn Fence.wide n Tryz.prog 125 #[.func (.yield l) #[] #[],.pointer (some ⟨Bx,0,none⟩)] W fun e W'=>(∃ v,e=.returned v) ∧
   ((∃ ys,ys=riseL f 8∧J ys W')∨(∃ pre,True∧Jx pre W')):=by
 refine callsIn_of_wp Tryz.func125 rfl trivial ?_ rfl;simp only[Tryz.ntmps125,List.size_toArray,List.length_cons,List.length_nil,Nat.reduceAdd,Nat.reduceSub,Array.replicate_succ,Array.replicate_zero,List.push_toArray,List.append_toArray,List.nil_append,List.cons_append];gi_wp2
 gi_loopw [6] (fun i wr=>∃ k:Nat,k≤8∧i=.int .i64 k∧J (riseL f k) wr∧MIs wr bm N f∧BoxM wr Bx bm) (fun i _=>8 - (intOf i).toNat)
 case atStart=>exact⟨0,Nat.zero_le _,rfl,h0,hM,hBx⟩
 case round=>
  obtain⟨k,hk,rfl,hJs,hMs,hBs⟩:=hrel;have cB:wr.cell? ⟨Bx,0,none⟩=some (.map (some bm)):=by rw[cell_of_row _ _ _ _ _ _ hBs];rfl
  by_cases hlt:k<8
  ·have LK:=hMs.look (k:=(k:Int)) (wf_i64 (by omega) (by omega));cases hf:f k with
   | none=>
    rw[hf]at LK;dsimp only[Option.getD_none,Option.isSome_none,Cel.v,cel00]at LK;have hJ1:=hJ _ _ _ none hJs (World.grownBy_alloc wr (.cells #[.int .i64 0,.int .i64 0,.string ⟨#[]⟩] 38) none) (fun r e=>by cases e);have hb:=(Below.refl wr.heap.size wr).alloc Nl (.cells #[.int .i64 0,.int .i64 0,.string ⟨#[]⟩] 38);have HJ1:=Yy hJ1;have HM1:=Yy (hMs.below hb hMs.lt);have HB1:Hid (BoxM (wr.alloc (.cells #[.int .i64 0,.int .i64 0,.string ⟨#[]⟩] 38)) Bx bm):=Yy ((hb.block _ hBs.lt).trans hBs);have HR:=Yy (riseL_none hf);clear hJ1 hb hf hJs hMs hBs;gi_wp2;refine⟨fun _ h=>(by cases h),?_⟩;gi_wp2;go_roundw
    case rel=>exact⟨k+1,by omega,by simp,by rw[HR.out];exact HJ1.out,HM1.out,HB1.out⟩
    case measure=>simp[intOf];omega
   | some c=>
    rw[hf]at LK;dsimp only[Option.getD_some,Option.isSome_some,Cel.v]at LK;have hJ1:=hJ _ _ _ none hJs (World.grownBy_alloc wr (.cells #[.int .i64 c.n,.int .i64 c.r,.string c.s] 38) none) (fun r e=>by cases e);have hb:=(Below.refl wr.heap.size wr).alloc Nl (.cells #[.int .i64 c.n,.int .i64 c.r,.string c.s] 38);obtain⟨fn,tmps,assign,body,hy,hR⟩:=hY _ ((k:Int),c) _ hJ1 (Nat.lt_of_le_of_lt (riseL_len f k) hlt);dsimp only[encC,Cel.v]at hy;have HM1:=Yy (hMs.below hb hMs.lt);have HB1:Hid (BoxM (wr.alloc (.cells #[.int .i64 c.n,.int .i64 c.r,.string c.s] 38)) Bx bm):=Yy ((hb.block _ hBs.lt).trans hBs);have HRL:=Yy (riseL_some hf);have HRR:=Yy hR;clear hJ1 hb hf hJs hMs hBs hR;gi_wp2;refine HRR.out.mono ?_;rintro e W3 (⟨rfl,hJ3,hk3⟩ | ⟨rfl,hJx3⟩)
    ·have HJ3:=Yy hJ3;have HM3:=Yy (HM1.out.same hk3.2);have HB3:Hid (BoxM W3 Bx bm):=Yy (hk3.1.trans HB1.out);clear hJ3 hk3;gi_wp2;go_roundw
     case rel=>exact⟨k+1,by omega,by simp,by rw[HRL.out];exact HJ3.out,HM3.out,HB3.out⟩
     case measure=>simp[intOf];omega
    ·exact Tta85
  ·obtain rfl:k=8:=by omega
   have HJ8:=Yy hJs;clear hJs hMs hBs;gi_wp2
   go_end0
   exact⟨⟨_,rfl⟩,.inl ⟨_,rfl,HJ8.out⟩⟩
theorem rise_stops (n:Nat) (hn:1≤n) (Bx bm N:Nat) (f:Int→Option Cel) (w:World) (hBx:BoxM w Bx bm) (hM:MIs w bm N f):
  SeqStopsK Fence.wide n Tryz.prog 125 #[.pointer (some ⟨Bx,0,none⟩)] encC (Kp2 Bx bm) (fun ys=>ys=riseL f 8) (fun _=>True) 8 w:=fun l J Jx W hW hJ _ hY h0=>
 rise1_in n hn l Bx bm N f J Jx W hJ hY ((hW.block _ hBx.lt).trans hBx) (hM.below hW hM.lt) h0
theorem rising_any (bm:Nat) (w:World):Calls Tryz.prog 109 #[.map (some bm)] w fun e w'=>
  e=.returned (.func (.func 125) #[] #[.pointer (some ⟨w.heap.size,0,none⟩)])∧w'=w.alloc (.cells #[.map (some bm)] 142):=by
 go_enter Tryz.func109,Tryz.ntmps109;go_wp2;go_ret;exact⟨rfl,rfl⟩
end
end
end Go.Proofs.YtnlhkpmgbpfjmaaGreatDoor
