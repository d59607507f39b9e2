import Derived.Test.YtnlhkpmgbpfjmaaGreatDoorQd8
import Derived.ProofKit
import Derived.ChangeSame
import Derived.Lib.SmallJoins
import Derived.Deep.Slices
import Derived.Deep.Strs
/- What functions answer, part 24. -/
namespace Go.Proofs.YtnlhkpmgbpfjmaaGreatDoor
set_option linter.unusedVariables false
set_option linter.unusedSimpArgs false
set_option maxHeartbeats 16000000
set_option maxRecDepth 100000
section
section
open Go.ChangeShapes Go.WideShapes Go.ChangeAt Go.RowKit Go.Joins WM
def IsCel (c:Cel):Prop:=(Lit.int .i64 c.n).wf=true∧(Lit.int .i64 c.r).wf=true∧c.s.size≤maxLen
theorem cell_trod {H:Type} {enc:TypeId×Value→H} {W:World} {base:Nat} {spare:Nat→Bool} {held:Bool} {fuel:Nat} {c0 c1 c2:Value} {x:DataW H×List MemPlace}
  (hf:DataW.trod enc Tryz.prog W base spare held fuel 38 [c0,c1,c2]=some x):∃ c:Cel,IsCel c∧c0=.int .i64 c.n∧c1=.int .i64 c.r∧c2=.string c.s:=by
 obtain⟨y0,y1,m,_,_,h0,h1⟩:=trod_struct2 Tryz.underlying38 hf;have k0:Tryz.prog.cellsOf 33=2:=by kernel_rfl
 have k1:Tryz.prog.cellsOf 9=1:=by kernel_rfl
 have k2:Tryz.prog.cellsOf 3=1:=by kernel_rfl
 dsimp only at h0 h1;rw[k0]at h0;rw[k1]at h1;obtain⟨z0,z1,m',_,_,g0,g1⟩:=trod_struct2 Tryz.underlying33 h0;dsimp only at g0 g1;rw[k2]at g0 g1;obtain⟨n0,e0,_,w0⟩:=DataW.trod_int Tryz.underlying3 g0;obtain⟨n1,e1,_,w1⟩:=DataW.trod_int Tryz.underlying3 g1;obtain⟨s,e2,_,w2⟩:=DataW.trod_string Tryz.underlying9 h1;simp at e0 e1 e2;subst e0 e1 e2;exact⟨⟨n0,n1,s⟩,⟨w0,w1,w2⟩,rfl,rfl,rfl⟩
theorem open_cell {H:Type} {enc:TypeId×Value→H} {W:World} {r:Reach} {b0 base:Nat} {spare:Nat→Bool} {held:Bool} {v:Value} {d:DataW H} {p:List MemPlace}
  (hv:Value.okWide Tryz.prog W r b0 38 v) (h:DataW.Trod enc Tryz.prog W base spare held 38 v d p):∃ c:Cel,v=c.v∧IsCel c:=by
 obtain⟨cs,rfl,hsz⟩:=okWide_struct Tryz.underlying38 hv;obtain⟨c0,c1,c2,rfl⟩:=array3 (hsz.trans (by kernel_rfl:Tryz.prog.cellsOf 38=3));obtain⟨fuel,hf⟩:=h;obtain⟨c,hc,rfl,rfl,rfl⟩:=cell_trod (c0:=c0) (c1:=c1) (c2:=c2) (by simpa [Value.cells] using hf);exact⟨c,rfl,hc⟩
end
section
open Go.ChangeShapes Go.WideShapes Go.ChangeAt Go.RowKit Go.Deep WM
theorem cells_at {w:World} {a:Addr} {n:Nat} {cs:List Value} (h:w.cells? 0 a n=some cs):cs.length=n∧∀ k,k<n→w.cell? (a.add k)=cs[k]?:=by
 obtain⟨hb,hl,h2⟩:=World.cells?_some h;exact⟨hl,h2⟩
end
section
open Go.ChangeShapes Go.WideShapes Go.ChangeAt Go.RowKit Go.Joins Go.Deep WM
def IsFld (f:Fld):Prop:=(Lit.int .i64 f.no).wf=true∧IsCel f.c
def IsRec (W:World) (R:Rc) (A:Option Addr) (c:Nat):Prop:=
 R.Ok∧FsAt W A c R.fs∧(Lit.int .i64 R.n).wf=true∧(Lit.int .i64 R.r).wf=true∧∀ f∈R.fs,IsFld f
section
variable {H:Type} {enc:TypeId×Value→H} {W:World} {base:Nat} {spare:Nat→Bool} {held:Bool}
theorem Tta54 {p:Prop} (h:p:=by
  refine⟨n,?_,(bounds_u8 hw).1,(bounds_u8 hw).2⟩;have h2:=congrArg (fun l=>l[0]?) hc;have h3:cs[i]?=some (.int .u8 n):=by simpa [Value.cells,List.getElem?_take,List.getElem?_drop] using h2
  exact (List.getElem?_eq_some_iff.1 h3).2
 ):p:=h
theorem Tta34 {p:Prop} (h:p:=by
  refine⟨cs.map intOf,?_,by rw[List.length_map,hlen],fun z hz=>?_⟩
  ·rw[List.map_map];apply List.ext_getElem
   ·simp
   ·intro i h1 h2;obtain⟨n,hn,_⟩:=key i h1;simp only[List.getElem_map,Function.comp];rw[hn]
    rfl
  ·obtain⟨v,hv,rfl⟩:=List.mem_map.1 hz;obtain⟨i,hi,rfl⟩:=List.getElem_of_mem hv;obtain⟨n,hn,h0,h1⟩:=key i hi;rw[hn];exact⟨h0,h1⟩
 ):p:=h
theorem id_trod {fuel:Nat} {cs:List Value} {x:DataW H×List MemPlace} (hf:DataW.trod enc Tryz.prog W base spare held fuel 31 cs=some x):∃ z:List Int,cs=z.map (Value.int .u8)∧z.length=16∧AllBytes z:=by
 have ce:Tryz.prog.cellsOf 5=1:=by kernel_rfl
 have ct:Tryz.prog.cellsOf 31=16:=by kernel_rfl
 obtain⟨ys,m,rfl,hx,hcl,hyl,hall⟩:=DataW.trod_array Tryz.underlying31 hf;have hlen:cs.length=16:=by rw[hcl,ct]
 have key:∀ (i:Nat) (hi:i<cs.length),∃ n:Int,cs[i]=.int .u8 n∧0≤n∧n≤255:=fun i hi=>by
  have h1:=hall i (by omega);rw[ce,Nat.mul_one,List.getElem?_eq_getElem (by omega)]at h1;obtain⟨n,hc,_,hw⟩:=DataW.trod_int Tryz.underlying5 h1;exact Tta54
 exact Tta34
theorem st_trod {fuel:Nat} {c0 c1:Value} {x:DataW H×List MemPlace} (hf:DataW.trod enc Tryz.prog W base spare held fuel 33 [c0,c1]=some x):
  ∃ n r:Int,c0=.int .i64 n∧c1=.int .i64 r∧(Lit.int .i64 n).wf=true∧(Lit.int .i64 r).wf=true:=by
 have k2:Tryz.prog.cellsOf 3=1:=by kernel_rfl
 obtain⟨z0,z1,m',_,_,g0,g1⟩:=trod_struct2 Tryz.underlying33 hf;dsimp only at g0 g1;rw[k2]at g0 g1;obtain⟨n0,e0,_,w0⟩:=DataW.trod_int Tryz.underlying3 g0;obtain⟨n1,e1,_,w1⟩:=DataW.trod_int Tryz.underlying3 g1;simp at e0 e1;subst e0 e1;exact⟨n0,n1,rfl,rfl,w0,w1⟩
theorem fld_trod {fuel:Nat} {c0 c1 c2 c3:Value} {x:DataW H×List MemPlace} (hf:DataW.trod enc Tryz.prog W base spare held fuel 59 [c0,c1,c2,c3]=some x):
  ∃ f:Fld,IsFld f∧c0=.int .i64 f.no∧c1=.int .i64 f.c.n∧c2=.int .i64 f.c.r∧c3=.string f.c.s:=by
 have k2:Tryz.prog.cellsOf 3=1:=by kernel_rfl
 have k3:Tryz.prog.cellsOf 38=3:=by kernel_rfl
 obtain⟨z0,z1,m',_,_,g0,g1⟩:=trod_struct2 Tryz.underlying59 hf;dsimp only at g0 g1;rw[k2]at g0;rw[k3]at g1;obtain⟨n0,e0,_,w0⟩:=DataW.trod_int Tryz.underlying3 g0;simp at e0;subst e0;obtain⟨c,hc,h0,h1,h2⟩:=cell_trod (c0:=c1) (c1:=c2) (c2:=c3) (by simpa using g1);exact⟨⟨n0,c⟩,⟨w0,hc⟩,rfl,h0,h1,h2⟩
end
theorem list19 {l:List Value} (h:l.length=19):∃ z x y s,l=z++[x,y,s]∧z.length=16:=by
 refine⟨l.take 16,l.getD 16 undef,l.getD 17 undef,l.getD 18 undef,?_,by rw[List.length_take];omega⟩;apply List.ext_getElem?;intro i;rcases Nat.lt_or_ge i 16 with h1 | h1
 ·rw[List.getElem?_append_left (by rw[List.length_take];omega),List.getElem?_take,if_pos h1]
 ·rw[List.getElem?_append_right (by rw[List.length_take];omega),List.length_take,h];have h2:i=16∨i=17∨i=18∨19≤i:=by omega
  rcases h2 with rfl | rfl | rfl | h2
  ·simp[List.getD,h]
  ·simp[List.getD,h]
  ·simp[List.getD,h]
  ·rw[List.getElem?_eq_none (by omega),List.getElem?_eq_none (by simp;omega)]
theorem Tta84 {p:Prop} (h:p:=by
  rw[hl]at h0;obtain⟨b,off,hA,hb,hc⟩:=hcell h0;refine⟨b,off,hA,hb,fun i hi=>?_⟩;rw[hl]at hi;dsimp only;rw[hg i hi];exact hc i hi
 ):p:=h
theorem Tta69 {p:Prop} (h:p:=by
  obtain rfl:s=.slice none 0 0:=by simpa using hcs'
  exact fin none 0 0 (fun _=>fld0) rfl Nl (by decide) (fun _=>rfl) (fun i hi=>by omega) (fun h=>by omega)
 ):p:=h
theorem Tta26 {p:Prop} (h:p:=by
  by_cases hi:i<len'
  ·obtain⟨us,hc,hd⟩:=hall i (by rw[hmm];simp;omega);rw[k4]at hc;obtain⟨hlen,hat⟩:=cells_at hc
   match us,hlen with
   | [u0,u1,u2,u3],_=>
    obtain⟨f,hff,rfl,rfl,rfl,rfl⟩:=fld_trod hd;refine⟨f,fun _=>⟨hff,?_,?_,?_,?_⟩⟩
    ·have:=hat 0 (by omega);rwa[add_add]at this
    ·have:=hat 1 (by omega);rwa[add_add]at this
    ·have:=hat 2 (by omega);rwa[add_add]at this
    ·have:=hat 3 (by omega);rwa[add_add]at this
  ·exact⟨fld0,fun h=>absurd h hi⟩
 ):p:=h
theorem Ttb17 {p:Prop} (h:p:=by
  rcases Nat.lt_or_ge b W.heap.size with h2 | h2
  ·exact h2
  ·rw[Addr.add_lit,World.cell?]at h00;rw[Array.getElem?_eq_none h2]at h00;cases h00
 ):p:=h
theorem Tta30 {p:Prop} (h:p:=by
  have hspot:spot=none:=by simpa [Addr.add] using World.cell?_spot h00
  subst hspot;have hlt:b<W.heap.size:=by
   exact Ttb17
  refine⟨b,off,rfl,hlt,fun i hi=>?_⟩;obtain⟨_,g1,g2,g3,g4⟩:=hFF i hi;rw[Addr.add_lit]at g1 g2 g3 g4;exact⟨g1,g2,g3,g4⟩
 ):p:=h
theorem open_rec {H:Type} {enc:TypeId×Value→H} {W:World} {r:Reach} {b0:Nat} {v:Value} {d:DataW H} {p:List MemPlace}
  (hv:Value.okWide Tryz.prog W r b0 36 v) (h:DataW.Trod enc Tryz.prog W 0 (fun _=>true) true 36 v d p):∃ R A c,v=R.v A c∧IsRec W R A c:=by
 obtain⟨cs,rfl,hsz⟩:=okWide_struct Tryz.underlying36 hv;have k19:Tryz.prog.cellsOf 36=19:=by kernel_rfl
 have k16:Tryz.prog.cellsOf 31=16:=by kernel_rfl
 have k2:Tryz.prog.cellsOf 33=2:=by kernel_rfl
 have k1:Tryz.prog.cellsOf 34=1:=by kernel_rfl
 have k4:Tryz.prog.cellsOf 59=4:=by kernel_rfl
 obtain⟨fuel,hf⟩:=h;obtain⟨zs,x,y,s,hcs,hz⟩:=list19 (l:=cs.toList) ((Array.length_toList).trans (hsz.trans k19));have hc2:(Value.agg cs).cells.toList=zs++[x,y,s]:=hcs;rw[hc2]at hf;obtain⟨y0,y1,y2,m,_,_,h0,h1,h2⟩:=trod_struct3 Tryz.underlying36 hf;dsimp only at h0 h1 h2;rw[k16,List.drop_zero,← hz,List.take_left]at h0;have e1:((zs++[x,y,s]).drop 16).take 2=[x,y]:=by rw[← hz,List.drop_left];rfl
 have e2:((zs++[x,y,s]).drop 18).take 1=[s]:=by
  rw[show zs++[x,y,s]=(zs++[x,y])++[s] by simp,show 18=(zs++[x,y]).length by simp[hz],List.drop_left]
  rfl
 rw[k2,e1]at h1;rw[k1,e2]at h2;obtain⟨z,rfl,hz16,hzb⟩:=id_trod h0;obtain⟨n,q,rfl,rfl,wn,wr⟩:=st_trod h1;have fin:∀ (A:Option Addr) (c len:Nat) (F:Nat→Fld),s=.slice A len c→len≤c→c≤maxLen→(A=none→c=0)→(∀ i,i<len→IsFld (F i)) →
   (0<len→∃ b off,A=some ⟨b,off,none⟩∧b<W.heap.size∧∀ i,i<len→W.cell? ⟨b,off+i*4,none⟩=some (.int .i64 (F i).no)∧W.cell? ⟨b,off+i*4+1,none⟩=some (.int .i64 (F i).c.n)∧W.cell? ⟨b,off+i*4+2,none⟩=some (.int .i64 (F i).c.r)∧W.cell? ⟨b,off+i*4+3,none⟩=some (.string (F i).c.s)) →
   ∃ R A c,Value.agg cs=Rc.v R A c∧IsRec W R A c:=by
  intro A c len F hs hlc hcm hn hF hcell;have hl:((List.range len).map F).length=len:=by simp
  have hg:∀ i,i<len→((List.range len).map F).getD i fld0=F i:=fun i hi=>by simp[List.getD,hi]
  refine⟨⟨z,n,q,(List.range len).map F⟩,A,c,?_,⟨hz16,hzb⟩,⟨by rw[hl];exact hlc,hcm,hn,fun h0=>?_⟩,wn,wr,fun f hf=>?_⟩
  ·unfold Rc.v rv rcells;dsimp only;rw[hl,← hs,← hcs]
  ·exact Tta84
  ·obtain⟨i,hi,rfl⟩:=List.mem_map.1 hf;exact hF i (by simpa using hi)
 rcases open_slice Tryz.underlying34 h2 with ⟨hcs',_⟩ | ⟨ad,len',cap',m',n',D,Pl,hcs',_,hl,hm,hmm,_,hall⟩
 ·exact Tta69
 ·obtain rfl:s=.slice (some ad) len' cap':=by simpa using hcs'
  have key:∀ i,∃ f:Fld,i<len'→IsFld f∧W.cell? (ad.add (i*4))=some (.int .i64 f.no)∧W.cell? (ad.add (i*4+1))=some (.int .i64 f.c.n)∧W.cell? (ad.add (i*4+2))=some (.int .i64 f.c.r)∧W.cell? (ad.add (i*4+3))=some (.string f.c.s):=fun i=>by
   exact Tta26
  obtain⟨F,hFF⟩:∃ F:Nat→Fld,∀ i,i<len'→IsFld (F i)∧W.cell? (ad.add (i*4))=some (.int .i64 (F i).no)∧W.cell? (ad.add (i*4+1))=some (.int .i64 (F i).c.n)∧W.cell? (ad.add (i*4+2))=some (.int .i64 (F i).c.r)∧W.cell? (ad.add (i*4+3))=some (.string (F i).c.s):=⟨fun i=>(key i).choose,fun i=>(key i).choose_spec⟩;clear key;refine fin (some ad) cap' len' F rfl hl hm (fun h=>by cases h) (fun i hi=>(hFF i hi).1) (fun h0=>?_);obtain⟨b,off,spot⟩:=ad;have h00:=(hFF 0 h0).2.1;exact Tta30
end
section
open Go.ChangeShapes Go.WideShapes Go.ChangeAt Go.RowKit Go.Joins Go.Deep WM
theorem rec_trod {H:Type} {enc:TypeId×Value→H} {W:World} {fuel:Nat} {l:List Value} {x:DataW H×List MemPlace} (hlen:l.length=19) (hf:DataW.trod enc Tryz.prog W 0 (fun _=>true) true fuel 36 l=some x):
  ∃ R A c,l=(rcells R.z R.n R.r (.slice A R.fs.length c)).toList∧IsRec W R A c:=by
 have k16:Tryz.prog.cellsOf 31=16:=by kernel_rfl
 have k2:Tryz.prog.cellsOf 33=2:=by kernel_rfl
 have k1:Tryz.prog.cellsOf 34=1:=by kernel_rfl
 have k4:Tryz.prog.cellsOf 59=4:=by kernel_rfl
 obtain⟨zs,x,y,s,hcs,hz⟩:=list19 hlen;rw[hcs]at hf;obtain⟨y0,y1,y2,m,_,_,h0,h1,h2⟩:=trod_struct3 Tryz.underlying36 hf;dsimp only at h0 h1 h2;rw[k16,List.drop_zero,← hz,List.take_left]at h0;have e1:((zs++[x,y,s]).drop 16).take 2=[x,y]:=by rw[← hz,List.drop_left];rfl
 have e2:((zs++[x,y,s]).drop 18).take 1=[s]:=by
  rw[show zs++[x,y,s]=(zs++[x,y])++[s] by simp,show 18=(zs++[x,y]).length by simp[hz],List.drop_left]
  rfl
 rw[k2,e1]at h1;rw[k1,e2]at h2;obtain⟨z,rfl,hz16,hzb⟩:=id_trod h0;obtain⟨n,q,rfl,rfl,wn,wr⟩:=st_trod h1;have fin:∀ (A:Option Addr) (c len:Nat) (F:Nat→Fld),s=.slice A len c→len≤c→c≤maxLen→(A=none→c=0)→(∀ i,i<len→IsFld (F i)) →
   (0<len→∃ b off,A=some ⟨b,off,none⟩∧b<W.heap.size∧∀ i,i<len→W.cell? ⟨b,off+i*4,none⟩=some (.int .i64 (F i).no)∧W.cell? ⟨b,off+i*4+1,none⟩=some (.int .i64 (F i).c.n)∧W.cell? ⟨b,off+i*4+2,none⟩=some (.int .i64 (F i).c.r)∧W.cell? ⟨b,off+i*4+3,none⟩=some (.string (F i).c.s)) →
   ∃ R A c,l=(rcells R.z R.n R.r (.slice A R.fs.length c)).toList∧IsRec W R A c:=by
  intro A c len F hs hlc hcm hn hF hcell;have hl:((List.range len).map F).length=len:=by simp
  have hg:∀ i,i<len→((List.range len).map F).getD i fld0=F i:=fun i hi=>by simp[List.getD,hi]
  refine⟨⟨z,n,q,(List.range len).map F⟩,A,c,?_,⟨hz16,hzb⟩,⟨by rw[hl];exact hlc,hcm,hn,fun h0=>?_⟩,wn,wr,fun f hf=>?_⟩
  ·unfold rcells;dsimp only;rw[hl,← hs,hcs]
  ·exact Tta84
  ·obtain⟨i,hi,rfl⟩:=List.mem_map.1 hf;exact hF i (by simpa using hi)
 rcases open_slice Tryz.underlying34 h2 with ⟨hcs',_⟩ | ⟨ad,len',cap',m',n',D,Pl,hcs',_,hl,hm,hmm,_,hall⟩
 ·exact Tta69
 ·obtain rfl:s=.slice (some ad) len' cap':=by simpa using hcs'
  have key:∀ i,∃ f:Fld,i<len'→IsFld f∧W.cell? (ad.add (i*4))=some (.int .i64 f.no)∧W.cell? (ad.add (i*4+1))=some (.int .i64 f.c.n)∧W.cell? (ad.add (i*4+2))=some (.int .i64 f.c.r)∧W.cell? (ad.add (i*4+3))=some (.string f.c.s):=fun i=>by
   exact Tta26
  obtain⟨F,hFF⟩:∃ F:Nat→Fld,∀ i,i<len'→IsFld (F i)∧W.cell? (ad.add (i*4))=some (.int .i64 (F i).no)∧W.cell? (ad.add (i*4+1))=some (.int .i64 (F i).c.n)∧W.cell? (ad.add (i*4+2))=some (.int .i64 (F i).c.r)∧W.cell? (ad.add (i*4+3))=some (.string (F i).c.s):=⟨fun i=>(key i).choose,fun i=>(key i).choose_spec⟩;clear key;refine fin (some ad) cap' len' F rfl hl hm (fun h=>by cases h) (fun i hi=>(hFF i hi).1) (fun hpos=>?_);obtain⟨b,off,spot⟩:=ad;have h00:=(hFF 0 hpos).2.1;exact Tta30
theorem open_bk {H:Type} {enc:TypeId×Value→H} {W:World} {r:Reach} {b0:Nat} {v:Value} {d:DataW H} {p:List MemPlace}
  (hv:Value.okWide Tryz.prog W r b0 24 v) (h:DataW.Trod enc Tryz.prog W 0 (fun _=>true) true 24 v d p):∃ b:Bk,v=.agg #[.slice b.A b.xs.length b.c]∧BkAt W b:=by
 obtain⟨cs,rfl,hsz⟩:=okWide_struct Tryz.underlying24 hv;have k1:Tryz.prog.cellsOf 24=1:=by kernel_rfl
 have k19:Tryz.prog.cellsOf 36=19:=by kernel_rfl
 have ks:Tryz.prog.cellsOf 22=1:=by kernel_rfl
 obtain⟨fuel,hf⟩:=h;have hl:cs.toList.length=1:=(Array.length_toList).trans (hsz.trans k1);obtain⟨s,hcs⟩:∃ s,cs.toList=[s]:=by
  match hm:cs.toList,hl with
  | [s],_=>exact⟨s,rfl⟩
 have hca:cs=#[s]:=by rw[← Array.toArray_toList (xs:=cs),hcs]
 have hc:(Value.agg cs).cells.toList=[s]:=hcs;rw[hc]at hf;obtain⟨y0,m,_,_,h0⟩:=trod_struct1 Tryz.underlying24 hf;dsimp only at h0;rw[ks,List.drop_zero,List.take_of_length_le (by simp)]at h0;have fin:∀ (A:Option Addr) (c len:Nat) (F:Nat→RcA),s=.slice A len c→len≤c→c≤maxLen→(A=none→c=0)→(∀ i,i<len→RvAt W (F i)) →
   (0<len→∃ b off,A=some ⟨b,off,none⟩∧b<W.heap.size∧∀ i,i<len→RecAt W b (off+i*19) (F i))→∃ b:Bk,Value.agg cs=.agg #[.slice b.A b.xs.length b.c]∧BkAt W b:=by
  intro A c len F hs hlc hcm hn hF hcell;have hl:((List.range len).map F).length=len:=by simp
  have hg:∀ i,i<len→((List.range len).map F).getD i rcA0=F i:=fun i hi=>by simp[List.getD,hi]
  refine⟨⟨(List.range len).map F,A,c⟩,?_,by rw[hl];exact hlc,hcm,hn,fun h0=>?_,fun x hx=>?_⟩
  ·dsimp only;rw[hl,← hs,hca]
  ·dsimp only at h0;rw[hl]at h0;obtain⟨b,off,hA,hb,hc⟩:=hcell h0;refine⟨b,off,hA,hb,fun i hi=>?_⟩;dsimp only at hi ⊢;rw[hl]at hi;rw[hg i hi];exact hc i hi
  ·obtain⟨i,hi,rfl⟩:=List.mem_map.1 hx;exact hF i (by simpa using hi)
 rcases open_slice Tryz.underlying22 h0 with ⟨hcs',_⟩ | ⟨ad,len',cap',m',n',D,Pl,hcs',_,hl,hm,hmm,_,hall⟩
 ·obtain rfl:s=.slice none 0 0:=by simpa using hcs'
  exact fin none 0 0 (fun _=>rcA0) rfl Nl (by decide) (fun _=>rfl) (fun i hi=>by omega) (fun h=>by omega)
 ·obtain rfl:s=.slice (some ad) len' cap':=by simpa using hcs'
  have key:∀ i,∃ x:RcA,i<len'→RvAt W x∧∀ j,j<19→W.cell? (ad.add (i*19+j))=x.cs[j]?:=fun i=>by
   by_cases hi:i<len'
   ·obtain⟨us,hc,hd⟩:=hall i (by rw[hmm];simp;omega);rw[k19]at hc;obtain⟨hlen,hat⟩:=cells_at hc;obtain⟨R,A,c,he,hr⟩:=rec_trod hlen hd;refine⟨⟨R,A,c⟩,fun _=>⟨⟨hr.1,hr.2.1⟩,fun j hj=>?_⟩⟩;have h2:=hat j hj;rw[add_add]at h2;rw[h2];show _=(rcells R.z R.n R.r (.slice A R.fs.length c)).toList[j]?;rw[← he]
   ·exact⟨rcA0,fun h=>absurd h hi⟩
  obtain⟨F,hFF⟩:∃ F:Nat→RcA,∀ i,i<len'→RvAt W (F i)∧∀ j,j<19→W.cell? (ad.add (i*19+j))=(F i).cs[j]?:=⟨fun i=>(key i).choose,fun i=>(key i).choose_spec⟩;clear key;refine fin (some ad) cap' len' F rfl hl hm (fun h=>by cases h) (fun i hi=>(hFF i hi).1) (fun hpos=>?_);obtain⟨b,off,spot⟩:=ad;have h00:=(hFF 0 hpos).2 0 (by omega);rw[List.getElem?_eq_getElem (by rw[cs_len (hFF 0 hpos).1.len];omega)]at h00;have hspot:spot=none:=by simpa [Addr.add] using World.cell?_spot h00
  subst hspot;have hlt:b<W.heap.size:=by
   exact Ttb17
  refine⟨b,off,rfl,hlt,fun i hi=>⟨(hFF i hi).1.len,fun j hj=>?_⟩⟩;have:=(hFF i hi).2 j hj;rw[Addr.add_lit]at this;rw[← this]
  congr 2
  omega
theorem open_id {H:Type} {enc:TypeId×Value→H} {W:World} {r:Reach} {b0:Nat} {v:Value} {d:DataW H} {p:List MemPlace}
  (hv:Value.okWide Tryz.prog W r b0 31 v) (h:DataW.Trod enc Tryz.prog W 0 (fun _=>true) true 31 v d p):∃ z:List Int,v=.agg (bvals z)∧z.length=16∧AllBytes z:=by
 obtain⟨cs,rfl⟩:∃ cs,v=.agg cs:=by
  simp only[Value.okWide,Tryz.underlying31]at hv;obtain⟨cs,rfl,_⟩:=hv;exact⟨cs,rfl⟩
 obtain⟨fuel,hf⟩:=h;have hc:(Value.agg cs).cells.toList=cs.toList:=rfl;rw[hc]at hf;obtain⟨z,hz,h16,hb⟩:=id_trod hf;refine⟨z,?_,h16,hb⟩
 congr 1
 apply Array.ext';rw[hz]
 rfl
end
end
section
open Go.ChangeShapes Go.WideShapes Go.ChangeAt Go.RowKit Go.Deep WM
section
variable {H:Type} {enc:TypeId×Value→H} {W:World} {P:Program}
theorem open_rowK {α:Type} (K:Kind α) {ts te:TypeId} (ht:P.underlying ts=some (.slice te)) (hk:P.cellsOf te=K.n)
  (hel:∀ {fuel:Nat} {l:List Value} {x:DataW H×List MemPlace},l.length=K.n→DataW.trod enc P W 0 (fun _=>true) true fuel te l=some x→∃ e:α,l=K.cs e∧K.ok W e)
  {fuel:Nat} {A:Option Addr} {len c:Nat} {x:DataW H×List MemPlace} (h:DataW.trod enc P W 0 (fun _=>true) true fuel ts [.slice A len c]=some x):∃ xs:List α,xs.length=len∧K.row W A c xs:=by
 rcases open_slice ht h with ⟨hcs,_⟩ | ⟨ad,len',cap',m,n,D,Pl,hcs,_,hl,hm,hmm,_,hall⟩
 ·simp at hcs;obtain⟨rfl,rfl,rfl⟩:=hcs;exact⟨[],rfl,Kind.row_nil _ _ _ (by decide) (fun _=>rfl)⟩
 ·simp at hcs;obtain⟨rfl,rfl,rfl⟩:=hcs;have key:∀ i,∃ e:α,i<len→K.ok W e∧∀ j,j<K.n→W.cell? (ad.add (i*K.n+j))=(K.cs e)[j]?:=fun i=>by
   by_cases hi:i<len
   ·obtain⟨us,hc,hd⟩:=hall i (by rw[hmm];simp;omega);rw[hk]at hc;obtain⟨_,hlen,hat⟩:=World.cells?_some hc;obtain⟨e,he,hok⟩:=hel hlen hd;refine⟨e,fun _=>⟨hok,fun j hj=>?_⟩⟩;have:=hat j hj;rw[add_add]at this;rw[this,he]
   ·exact⟨K.d,fun h=>absurd h hi⟩
  obtain⟨F,hF⟩:∃ F:Nat→α,∀ i,i<len→K.ok W (F i)∧∀ j,j<K.n→W.cell? (ad.add (i*K.n+j))=(K.cs (F i))[j]?:=⟨fun i=>(key i).choose,fun i hi=>(key i).choose_spec hi⟩;clear key;have hln:((List.range len).map F).length=len:=by simp
  have hg:∀ i,i<len→((List.range len).map F).getD i K.d=F i:=fun i hi=>by simp[List.getD,hi]
  refine⟨(List.range len).map F,hln,by rw[hln];exact hl,hm,(fun h=>by cases h),fun h0=>?_,fun e he=>?_⟩
  ·rw[hln]at h0;obtain⟨b,off,spot⟩:=ad;obtain⟨h1,h2⟩:=hF 0 h0;have h3:=h2 0 K.pos;obtain⟨u,hu⟩:∃ u,(K.cs (F 0))[0]?=some u:=⟨_,List.getElem?_eq_getElem (by rw[K.len h1];exact K.pos)⟩;rw[hu]at h3;have hspot:spot=none:=by simpa [Addr.add] using World.cell?_spot h3
   subst hspot;have hlt:b<W.heap.size:=by
    rcases Nat.lt_or_ge b W.heap.size with h4 | h4
    ·exact h4
    ·rw[Addr.add_lit,World.cell?]at h3;rw[Array.getElem?_eq_none h4]at h3;cases h3
   refine⟨b,off,rfl,hlt,fun i hi j hj=>?_⟩;rw[hln]at hi;rw[hg i hi];have:=(hF i hi).2 j hj;rw[Addr.add_lit]at this;rw[Nat.add_assoc];exact this
  ·obtain⟨i,hi,rfl⟩:=List.mem_map.1 he;exact (hF i (by simpa using hi)).1
theorem bytes_trod {base:Nat} {spare:Nat→Bool} {held:Bool} {t e:TypeId} {n:Nat} (ht:P.underlying t=some (.array n e)) (he:P.underlying e=some (.int .u8)) (ce:P.cellsOf e=1) (ct:P.cellsOf t=n)
  {fuel:Nat} {cs:List Value} {x:DataW H×List MemPlace} (hf:DataW.trod enc P W base spare held fuel t cs=some x):∃ z:List Int,cs=z.map (Value.int .u8)∧z.length=n∧AllBytes z:=by
 obtain⟨ys,m,rfl,hx,hcl,hyl,hall⟩:=DataW.trod_array ht hf;have hlen:cs.length=n:=by rw[hcl,ct]
 have key:∀ (i:Nat) (hi:i<cs.length),∃ n:Int,cs[i]=.int .u8 n∧0≤n∧n≤255:=fun i hi=>by
  have h1:=hall i (by omega);rw[ce,Nat.mul_one,List.getElem?_eq_getElem (by omega)]at h1;obtain⟨n,hc,_,hw⟩:=DataW.trod_int he h1;exact Tta54
 exact Tta34
end
end
section
open Go.ChangeShapes Go.WideShapes Go.ChangeAt Go.RowKit Go.Deep WM
section
variable {H:Type} {enc:TypeId×Value→H} {W:World}
theorem sig_trod {base:Nat} {spare:Nat→Bool} {held:Bool} {fuel:Nat} {l:List Value} {x:DataW H×List MemPlace} (hl:l.length=33) (hf:DataW.trod enc Tryz.prog W base spare held fuel 122 l=some x):
  ∃ e:Sg,l=KSig.cs e∧KSig.ok W e:=by
 have k1:Tryz.prog.cellsOf 120=1:=by kernel_rfl
 have k32:Tryz.prog.cellsOf 26=32:=by kernel_rfl
 obtain⟨y0,y1,m,_,_,h0,h1⟩:=trod_struct2 Tryz.underlying122 hf;dsimp only at h0 h1;rw[k1,List.drop_zero]at h0;rw[k32]at h1
 match l,hl with
 | c0::cs,hl=>
  have hcl:cs.length=32:=by simpa using hl
  obtain⟨n,e0,_,w0⟩:=DataW.trod_int Tryz.underlying120 h0;simp at e0;subst e0;rw[List.drop_one,List.tail_cons,List.take_of_length_le (by omega)]at h1;obtain⟨z,rfl,hz,hb⟩:=bytes_trod Tryz.underlying26 Tryz.underlying5 (by kernel_rfl) k32 h1
  have hw:0≤n∧n≤4294967295:=by
   simp[Lit.wf,IntKind.min,IntKind.max,IntKind.bits,IntKind.signed]at w0;omega
  exact⟨⟨n,z⟩,rfl,hw.1,hw.2,hz,hb⟩
end
end
section
open Go.ChangeShapes Go.WideShapes Go.ChangeAt Go.RowKit Go.Deep WM
section
variable {H:Type} {enc:TypeId×Value→H} {W:World}
theorem trod_struct5 {P:Program} {base:Nat} {spare:Nat→Bool} {held:Bool} {t:TypeId} {f0 f1 f2 f3 f4:Field} {fuel:Nat} {cs:List Value} {x:DataW H×List MemPlace} (ht:P.underlying t=some (.struct #[f0,f1,f2,f3,f4])) (h:DataW.trod enc P W base spare held fuel t cs=some x):
  ∃ y0 y1 y2 y3 y4 n,DataW.trod enc P W base spare held n f0.type ((cs.drop f0.offset).take (P.cellsOf f0.type))=some y0 ∧
   DataW.trod enc P W base spare held n f1.type ((cs.drop f1.offset).take (P.cellsOf f1.type))=some y1∧DataW.trod enc P W base spare held n f2.type ((cs.drop f2.offset).take (P.cellsOf f2.type))=some y2 ∧
   DataW.trod enc P W base spare held n f3.type ((cs.drop f3.offset).take (P.cellsOf f3.type))=some y3∧DataW.trod enc P W base spare held n f4.type ((cs.drop f4.offset).take (P.cellsOf f4.type))=some y4:=by
 obtain⟨xs,n,_,rfl,hl,hlen,hf⟩:=DataW.trod_struct ht h
 match xs,hlen with
 | [y0,y1,y2,y3,y4],_=>exact⟨y0,y1,y2,y3,y4,n,by simpa using hf 0 f0 rfl,by simpa using hf 1 f1 rfl,by simpa using hf 2 f2 rfl,by simpa using hf 3 f3 rfl,by simpa using hf 4 f4 rfl⟩
theorem row_trod {α:Type} (K:Kind α) {ts te:TypeId} (ht:Tryz.prog.underlying ts=some (.slice te)) (hk:Tryz.prog.cellsOf te=K.n)
  (hel:∀ {fuel:Nat} {l:List Value} {x:DataW H×List MemPlace},l.length=K.n→DataW.trod enc Tryz.prog W 0 (fun _=>true) true fuel te l=some x→∃ e:α,l=K.cs e∧K.ok W e)
  {fuel:Nat} {cs:List Value} {x:DataW H×List MemPlace} (h:DataW.trod enc Tryz.prog W 0 (fun _=>true) true fuel ts cs=some x):∃ (xs:List α) (A:Option Addr) (c:Nat),cs=[.slice A xs.length c]∧K.row W A c xs:=by
 obtain⟨A,len,c,rfl⟩:=Joins.slice_form ht h;obtain⟨xs,rfl,hr⟩:=open_rowK K ht hk hel h;exact⟨xs,A,c,rfl,hr⟩
theorem split_at {l:List Value} {k n:Nat} (h:l.length=k+n):l=l.take k++l.drop k∧(l.take k).length=k∧(l.drop k).length=n:=⟨(List.take_append_drop k l).symm,by rw[List.length_take];omega,by rw[List.length_drop];omega⟩
theorem en_trod {fuel:Nat} {l:List Value} {x:DataW H×List MemPlace} (hl:l.length=37) (hf:DataW.trod enc Tryz.prog W 0 (fun _=>true) true fuel 68 l=some x):∃ e:EnA,l=KEn.cs e∧KEn.ok W e:=by
 have k1:Tryz.prog.cellsOf 3=1:=by kernel_rfl
 have k2:Tryz.prog.cellsOf 33=2:=by kernel_rfl
 have k32:Tryz.prog.cellsOf 26=32:=by kernel_rfl
 have ks:Tryz.prog.cellsOf 66=1:=by kernel_rfl
 obtain⟨y0,y1,y2,y3,y4,m,h0,h1,h2,h3,h4⟩:=trod_struct5 Tryz.underlying68 hf;dsimp only at h0 h1 h2 h3 h4;rw[k1]at h0 h2;rw[k2]at h1;rw[k32]at h3;rw[ks]at h4
 match l,hl with
 | c0::c1::c2::c3::cs,hl=>
  obtain⟨e1,e2,e3⟩:=split_at (l:=cs) (k:=32) (n:=1) (by simpa using hl);simp only[List.drop_succ_cons,List.drop_zero,List.take_succ_cons,List.take_zero]at h0 h1 h2 h3 h4;rw[List.take_of_length_le (by rw[e3];exact Nat.le_refl _)]at h4;obtain⟨n0,q0,_,w0⟩:=DataW.trod_int Tryz.underlying3 h0;obtain⟨n1,n2,rfl,rfl,w1,w2⟩:=st_trod h1;obtain⟨n3,q3,_,w3⟩:=DataW.trod_int Tryz.underlying3 h2;simp at q0 q3;subst q0 q3;obtain⟨z,hz,hz32,hb⟩:=bytes_trod Tryz.underlying26 Tryz.underlying5 (by kernel_rfl) k32 h3
  obtain⟨bs,A,c,hs,hr⟩:=row_trod KSig Tryz.underlying66 (by kernel_rfl) (fun hl hf=>sig_trod hl hf) h4;refine⟨⟨⟨n0,n1,n2,n3,z,bs⟩,A,c⟩,?_,w0,w1,w2,w3,hz32,hb,hr⟩;rw[e1,hz,hs]
  rfl
theorem ln_trod {fuel:Nat} {l:List Value} {x:DataW H×List MemPlace} (hl:l.length=19) (hf:DataW.trod enc Tryz.prog W 0 (fun _=>true) true fuel 63 l=some x):∃ e:LnA,l=KLn.cs e∧KLn.ok W e:=by
 have k16:Tryz.prog.cellsOf 31=16:=by kernel_rfl
 have k2:Tryz.prog.cellsOf 33=2:=by kernel_rfl
 have ks:Tryz.prog.cellsOf 61=1:=by kernel_rfl
 obtain⟨y0,y1,y2,m,_,_,h0,h1,h2⟩:=trod_struct3 Tryz.underlying63 hf;dsimp only at h0 h1 h2;rw[k16,List.drop_zero]at h0;rw[k2]at h1;rw[ks]at h2;obtain⟨e1,e2,e3⟩:=split_at (l:=l) (k:=16) (n:=3) hl;have e4:l.drop 18=(l.drop 16).drop 2:=by rw[List.drop_drop]
 rw[e4]at h2;generalize l.drop 16=t at *
 match t,e3 with
 | [c0,c1,c2],_=>
  simp only[List.drop_succ_cons,List.drop_zero,List.take_succ_cons,List.take_zero]at h1 h2;obtain⟨z,hz,hz16,hb⟩:=id_trod h0;obtain⟨n1,n2,rfl,rfl,w1,w2⟩:=st_trod h1;obtain⟨es,A,c,hs,hr⟩:=row_trod KEn Tryz.underlying61 (by kernel_rfl) (fun hl hf=>en_trod hl hf) h2;refine⟨⟨z,n1,n2,A,c,es⟩,?_,hz16,hb,w1,w2,hr⟩;rw[e1,hz];simp at hs;rw[hs]
  rfl
theorem open_mn {r:Reach} {b0:Nat} {v:Value} {d:DataW H} {p:List MemPlace}
  (hv:Value.okWide Tryz.prog W r b0 29 v) (h:DataW.Trod enc Tryz.prog W 0 (fun _=>true) true 29 v d p):∃ m:MnA,v=m.v∧m.Ok W:=by
 obtain⟨cs,rfl,hsz⟩:=okWide_struct Tryz.underlying29 hv;have hsz:cs.size=33:=hsz.trans (by kernel_rfl);obtain⟨fuel,hf⟩:=h;have hf:DataW.trod enc Tryz.prog W 0 (fun _=>true) true fuel 29 cs.toList=some (d,p):=by simpa [Value.cells] using hf
 have k32:Tryz.prog.cellsOf 26=32:=by kernel_rfl
 have ks:Tryz.prog.cellsOf 27=1:=by kernel_rfl
 obtain⟨y0,y1,m,_,_,h0,h1⟩:=trod_struct2 Tryz.underlying29 hf;dsimp only at h0 h1;rw[k32,List.drop_zero]at h0;rw[ks]at h1;obtain⟨e1,e2,e3⟩:=split_at (l:=cs.toList) (k:=32) (n:=1) (by rw[Array.length_toList,hsz]);rw[List.take_of_length_le (by rw[e3];exact Nat.le_refl _)]at h1;obtain⟨z,hz,hz32,hb⟩:=bytes_trod Tryz.underlying26 Tryz.underlying5 (by kernel_rfl) k32 h0
 obtain⟨ls,A,c,hs,hr⟩:=row_trod KLn Tryz.underlying27 (by kernel_rfl) (fun hl hf=>ln_trod hl hf) h1;refine⟨⟨z,A,c,ls⟩,?_,hz32,hb,hr⟩;have:cs=(cs.toList).toArray:=by simp
 rw[this,e1,hz,hs]
 rfl
end
end
end Go.Proofs.YtnlhkpmgbpfjmaaGreatDoor
