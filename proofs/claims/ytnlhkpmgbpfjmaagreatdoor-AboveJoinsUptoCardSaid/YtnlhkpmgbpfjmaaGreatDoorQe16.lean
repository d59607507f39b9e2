import Derived.Test.YtnlhkpmgbpfjmaaGreatDoorQe15
/- What functions answer, part 16. -/
namespace Go.Proofs.YtnlhkpmgbpfjmaaGreatDoor
set_option linter.unusedVariables false
set_option linter.unusedSimpArgs false
set_option maxHeartbeats 16000000
set_option maxRecDepth 100000
section
open Go.RowKit WM
theorem fl_one (f:Fld):∀ u∈f.cs,u.oneCell'=true:=fun u hu=>by
 simp only[Fld.cs,List.mem_cons,List.not_mem_nil,or_false]at hu;rcases hu with rfl | rfl | rfl | rfl<;>rfl
def KFl:Kind Fld:={ n:=4,pos:=by decide,cs:=Fld.cs,d:=fld0,ok:=fun _ _=>True,len:=fun _=>rfl,one:=fl_one,below:=fun h _=>h}
def TFl:TKind Fld:={ K:=KFl,tag:=fun _ _=>True,ts:=[],below:=fun h _=>h,kept:=fun _ _ _ _=>⟨trivial,trivial⟩}
theorem FsAt.kfl {w:World} {A:Option Addr} {c:Nat} {fs:List Fld} (h:FsAt w A c fs):KFl.row w A c fs:=by
 obtain⟨h1,h2,h3,h4⟩:=h;refine⟨h1,h2,h3,fun h0=>?_,fun _ _=>trivial⟩;obtain⟨b,off,hA,hb,hc⟩:=h4 h0;refine⟨b,off,hA,hb,fun i hi j hj=>?_⟩;obtain⟨c0,c1,c2,c3⟩:=hc i hi
 match j,hj with
 | 0,_=>exact c0
 | 1,_=>exact c1
 | 2,_=>exact c2
 | 3,_=>exact c3
def KRc:Kind RcA:={ n:=19,pos:=by decide,cs:=RcA.cs,d:=rcA0,ok:=fun w x=>RvAt w x,len:=fun h=>cs_len h.len,one:=cs_one,below:=fun h hb=>h.below hb Nl}
theorem rc_kept {w w':World} {x:RcA} {row:Option Nat} (h:RvAt w x) (ht:FTag w x.A) (hg:w.grownBy w' row) (hr:NoT [59] w row):RvAt w' x∧FTag w' x.A:=by
 have h1:∀ g,row=some g→∀ c,w.heap[g]?≠some (.cells c 59):=fun g e=>hr g e _ List.mem_cons_self;exact⟨h.kept_tag ht hg h1,ht.kept hg h1⟩
theorem FTag.belowA {w w':World} {A:Option Addr} (h:FTag w A) (hb:Below w.heap.size w w'):FTag w' A:=fun p e=>by
 obtain⟨cur,hc⟩:=h p e;exact⟨cur,(hb.block _ (Array.getElem?_eq_some_iff.1 hc).1).trans hc⟩
def TRc:TKind RcA:={ K:=KRc,tag:=fun w x=>FTag w x.A,ts:=[59],below:=fun h hb=>FTag.belowA h hb,kept:=fun h ht hg hr=>rc_kept h ht hg hr}
theorem rcells_pre (z:List Int) (n r:Int) (v:Value):rcells z n r v=(lnP z n r++[v]).toArray:=by
 unfold rcells lnP;rw[List.append_assoc]
 rfl
theorem rv_cells (x:RcA):x.cells=(lnP x.R.z x.R.n x.R.r++[Value.slice x.A x.R.fs.length x.c]).toArray:=rcells_pre _ _ _ _
theorem RJ.recd {bl base:Nat} {z:List Int} {n r:Int} {A:Option Addr} {c:Nat} {fs:List Fld} {W:World} (h:RJ TFl 59 36 bl base (lnP z n r) (Value.slice A fs.length c) fs W) (hz:z.length=16∧AllBytes z):
  RvAt W ⟨⟨z,n,r,fs⟩,A,c⟩∧FTag W A∧XAt W bl ⟨⟨z,n,r,fs⟩,A,c⟩:=
 ⟨⟨hz,FsAt.own h.own⟩,FTag.own h.own,hz.1,by rw[rv_cells];exact h.blk⟩
theorem XAt.rj {W:World} {bl base:Nat} {z:List Int} {n r:Int} (h:XAt W bl ⟨⟨z,n,r,[]⟩,none,0⟩) (hl:bl<base) (hb:base≤W.heap.size):RJ TFl 59 36 bl base (lnP z n r) (Value.slice none 0 0) [] W:=
 ⟨by have:=h.2;rw[rv_cells]at this;exact this,World.ownsRow_nil _ _ _ _,(fun e he=>by cases he),hl,hb⟩
theorem XAt.dead {W:World} {b:Nat} {x:RcA} (h:XAt W b x) (n r:Int):XAt ((W.setCell ⟨b,16,none⟩ (.int .i64 n)).setCell ⟨b,17,none⟩ (.int .i64 r)) b ⟨⟨x.R.z,n,r,x.R.fs⟩,x.A,x.c⟩:=by
 refine⟨h.1,?_⟩;rw[heap_setCell_same _ _ _ _ _ _ (heap_setCell_same _ _ _ _ _ _ h.2)]
 congr 2
 show (((rcells _ _ _ _).setIfInBounds 16 _).setIfInBounds 17 _)=rcells _ _ _ _;unfold rcells;rw[Z2,Z2,List.set_append_right _ _ (by simp[h.1]),List.set_append_right _ _ (by simp[h.1])];simp[h.1]
 rfl
theorem infoFldK:(Tryz.prog.info? 59).map (fun i=>(i.zero,i.size,i.bytes))=some (some (KFl.v fld0),4,40):=by kernel_rfl
theorem sizeFldK (w:World):(sizeOf 59).run Tryz.prog w=.ok KFl.n w:=sizeFld w
theorem zeroFldK (w:World):(zeroValue 59).run Tryz.prog w=.ok (KFl.v fld0) w:=(zero_of_info (show (Tryz.prog.info? 59).map (fun i=>(i.zero,i.size))=some (some (KFl.v fld0),4) by kernel_rfl)).1 w
theorem nFl:KFl.n≤1000:=by decide
end
section
open Go.RowKit WM
theorem MnA.Ok.below {w w':World} {B:Nat} {m:MnA} (h:MnA.Ok w m) (hb:Below B w w') (hB:w.heap.size≤B):MnA.Ok w' m:=MnA.below h (hb.mono hB)
theorem LnA.Ok.below {w w':World} {B:Nat} {m:LnA} (h:LnA.Ok w m) (hb:Below B w w') (hB:w.heap.size≤B):LnA.Ok w' m:=LnA.below h (hb.mono hB)
theorem EnA.Ok.below {w w':World} {B:Nat} {m:EnA} (h:EnA.Ok w m) (hb:Below B w w') (hB:w.heap.size≤B):EnA.Ok w' m:=EnA.below h (hb.mono hB)
def RowAt (T:TypeId) (w:World) (b:Nat) (E:Array Value):Prop:=w.heap[b]?=some (.cells E T)
section
variable {T:TypeId} {w w':World} {b B:Nat} {E:Array Value}
theorem RowAt.lt (h:RowAt T w b E):b<w.heap.size:=(Array.getElem?_eq_some_iff.1 h).1
theorem RowAt.below (h:RowAt T w b E) (hb:Below B w w') (hB:b<B):RowAt T w' b E:=(hb.block b hB).trans h
theorem RowAt.new (w:World) (E:Array Value) (T:TypeId):RowAt T (w.alloc (.cells E T)) w.heap.size E:=heap_alloc_new w _
theorem RowAt.old (h:RowAt T w b E) (o:Obj):RowAt T (w.alloc o) b E:=h.below ((Below.refl w.heap.size w).alloc Nl o) h.lt
theorem RowAt.mn {m:MnA} (h:RowAt 29 w b m.cs.toArray) (hl:m.cs.length=33):(loadVar 29 ⟨b,0,none⟩).run Tryz.prog w=.ok (.agg m.cs.toArray) w:=
 Kind.at_load (K:=KMn) (x:=m) (Kind.at_blk (K:=KMn) (t:=29) h) hl Tryz.underlying29 rfl (by obtain⟨i,hi,_,hs,_⟩:=info_parts infoMn;rw[hi];exact congrArg some hs)
theorem RowAt.id {z:List Int} (h:RowAt 31 w b (bvals z)) (hl:z.length=16):(loadVar 31 ⟨b,0,none⟩).run Tryz.prog w=.ok (.agg (bvals z)) w:=load_idM (Kind.at_blk (K:=KId) (x:=z) h) hl
end
end
section
open Go.RowKit WM
def mofE (D:List Int→List Int) (f:Fld):En:=⟨f.no,f.c.n,f.c.r,f.c.s.size,D (nums f.c.s),sgOf (nums f.c.s)⟩
def mofL (D:List Int→List Int) (R:Rc):Ln:=⟨R.z,R.n,R.r,R.fs.map (mofE D)⟩
def mof (D:List Int→List Int) (base:List Int) (rs:List Rc):Mn:=⟨base,rs.map (mofL D)⟩
theorem enOk_mof (D:List Int→List Int) (n r m:Int) (f:Fld) (h:(decide (m≤f.no) && decide (f.no<8) && cmay f.c && stLess n r f.c.n f.c.r)=true):enOk n r (m - 1) (mofE D f)=true:=by
 simp only[Bool.and_eq_true,decide_eq_true_eq,cmay_iff]at h;obtain⟨⟨⟨h1,h2⟩,h3,h4,h5⟩,h6⟩:=h;have hl:=nums_len f.c.s;have hb:(if (f.c.s.size:Int)<24 then decide ((sgOf (nums f.c.s)).length=0) else decide (((sgOf (nums f.c.s)).length:Int)=(f.c.s.size:Int) / 8))=true:=by
  by_cases h9:(f.c.s.size:Int)<24
  ·rw[if_pos h9,sgOf_none (by omega)]
   rfl
  ·rw[if_neg h9,sgOf_len (by omega),decide_eq_true_eq];omega
 unfold enOk mofE;dsimp only;rw[hb,h3,h6,decide_eq_true (show m - 1<f.no∧f.no<8∧(0:Int)≤(f.c.s.size:Int)∧(f.c.s.size:Int)≤200 by omega)]
 rfl
theorem esOk_mof (D:List Int→List Int) (n r:Int):∀ (fs:List Fld) (m:Int),okFrom n r m fs=true→esOk n r (m - 1) (fs.map (mofE D))=true
 | [],_,_=>rfl
 | f::fs,m,h=>by
  rw[okFrom,Bool.and_eq_true]at h;rw[List.map_cons,esOk,enOk_mof D n r m f h.1,Bool.true_and];have:=esOk_mof D n r fs (f.no+1) h.2;rwa[show f.no+1 - 1=f.no by omega]at this
theorem lnOk_mof (D:List Int→List Int) (R:Rc) (h:R.may=true):lnOk (mofL D R)=true:=by
 unfold Rc.may rmay at h;rw[Bool.and_eq_true,Bool.and_eq_true]at h;obtain⟨⟨h1,h2⟩,h3⟩:=h;have h4:=esOk_mof D R.n R.r R.fs 0 h3;unfold lnOk mofL;dsimp only;rw[h1,show (-1:Int)=0 - 1 by omega,h4,decide_eq_false (show ¬ (R.fs.map (mofE D)=[]∧R.n=0∧R.r=0) from ?_)]
 ·rfl
 ·rintro⟨a,b,c⟩;have hl:R.fs.length=0:=by
   have:=congrArg List.length a
   simpa using this
  rw[decide_eq_true hl,decide_eq_true b,decide_eq_true c]at h2;simp at h2
theorem lsOk_mof (D:List Int→List Int):∀ (rs:List Rc) (p:Option (List Int)),okB p rs=true→lsOk p (rs.map (mofL D))=true
 | [],_,_=>rfl
 | R::rs,p,h=>by
  rw[okB,Bool.and_eq_true,Bool.and_eq_true]at h;obtain⟨⟨h1,h2⟩,h3⟩:=h;rw[List.map_cons,lsOk,lnOk_mof D R h1];have h4:=lsOk_mof D rs (some R.z) h3;rw[show (mofL D R).z=R.z from rfl,h4];cases p with
  | none=>rfl
  | some q=>rw[show riseOk (some q) R.z=lessL q R.z from rfl,show lessL q R.z=true from h2];rfl
theorem mof_may (D:List Int→List Int) (base:List Int) (rs:List Rc) (h:bmay rs=true):mmay (mof D base rs)=true:=by
 unfold bmay at h;rw[Bool.and_eq_true]at h;unfold mmay mof;dsimp only;rw[lsOk_mof D rs none h.2,List.length_map];exact h.1
theorem lfind_mof (D:List Int→List Int) (rs:List Rc) (z:List Int):lfind (rs.map (mofL D)) z=(bat rs z).map (mofL D):=by
 induction rs with
 | nil=>rfl
 | cons R rs ih=>
  rw[List.map_cons,bat_cons];by_cases hz:R.z=z
  ·rw[if_pos hz];unfold lfind;rw[List.find?_cons_of_pos (by show decide (R.z=z)=true;exact decide_eq_true hz)]
   rfl
  ·rw[if_neg hz,← ih];unfold lfind;rw[List.find?_cons_of_neg (by show ¬ decide (R.z=z)=true;rw[decide_eq_true_eq];exact hz)]
theorem efind_mof (D:List Int→List Int) (fs:List Fld) (no:Int):efind (fs.map (mofE D)) no=(fs.find? fun f=>decide (f.no=no)).map (mofE D):=by
 unfold efind
 induction fs with
 | nil=>rfl
 | cons f fs ih=>
  rw[List.map_cons];by_cases hz:f.no=no
  ·rw[List.find?_cons_of_pos (by show decide (f.no=no)=true;exact decide_eq_true hz),List.find?_cons_of_pos (by simpa using hz)];rfl
  ·rw[List.find?_cons_of_neg (by show ¬ decide (f.no=no)=true;rw[decide_eq_true_eq];exact hz),List.find?_cons_of_neg (by simpa using hz)];exact ih
theorem mfind_mof (D:List Int→List Int) (base:List Int) (rs:List Rc) (z:List Int) (no:Int):mfind (mof D base rs) z no=(bat rs z).bind fun R=>(R.fs.find? fun f=>decide (f.no=no)).map (mofE D):=by
 unfold mfind mof;dsimp only;rw[lfind_mof];cases bat rs z with
 | none=>rfl
 | some R=>exact efind_mof D R.fs no
end
section
open Go.RowKit WM
def ldead (m:Mn) (z:List Int):Int×Int:=match lfind m.ls z with
 | some x=>(x.n,x.r)
 | none=>(0,0)
noncomputable def exc (c:Cel) (m:Mn) (z:List Int) (no:Int):Bool:=
 stLess (ldead m z).1 (ldead m z).2 c.n c.r && (match mfind m z no with
  | none=>true
  | some e=>if e.n=c.n∧e.r=c.r then lessL e.ds (SH.sum (nums c.s)) else stLess e.n e.r c.n c.r)
def pless (R:Rc) (m:Mn):Bool:=stLess (ldead m R.z).1 (ldead m R.z).2 R.n R.r
noncomputable def pfs (R:Rc) (m:Mn):List Fld:=R.fs.filter fun f=>exc f.c m R.z f.no
noncomputable def ppart (m:Mn) (R:Rc):Rc:=⟨R.z,(if pless R m then R.n else 0),(if pless R m then R.r else 0),pfs R m⟩
noncomputable def apart (m:Mn) (R:Rc):Option Rc:=if pless R m=true∨pfs R m≠[] then some (ppart m R) else none
noncomputable def aparts (X:List Rc) (m:Mn):List Rc:=if bmay X && mmay m then X.filterMap (apart m) else []
end
section
open Go.RowKit WM
theorem exc_A (c:Cel) (m:MnA) (z:List Int) (no:Int):exc c m.m z no=(stLess ((lineA m.ls z).getD lnA0).n ((lineA m.ls z).getD lnA0).r c.n c.r && (if (findA m.ls z no).isSome then (if ((findA m.ls z no).getD enA0).e.n=c.n∧((findA m.ls z no).getD enA0).e.r=c.r then lessL ((findA m.ls z no).getD enA0).e.ds (SH.sum (nums c.s)) else stLess ((findA m.ls z no).getD enA0).e.n ((findA m.ls z no).getD enA0).e.r c.n c.r) else true)):=by
 unfold exc ldead;have h1:=lineA_x m.ls z;have h2:=findA_e m z no;rw[show m.m.ls=m.ls.map (·.x) from rfl,← h1,← h2];cases lineA m.ls z<;>cases findA m.ls z no<;>rfl
end
section
open Go.RowKit WM
structure PS (w:World) (x:RcA) (m:MnA) (p:Nat) (z:List Int) (n r:Int) (v:Value) (fs:List Fld) (W:World):Prop where
 b:Below w.heap.size w W
 x1:XAt W w.heap.size x
 m1:MnAt W (w.heap.size+1) m
 r0:XAt W (w.heap.size+1+1) rcA0
 j:RJ TFl 59 36 p (p+1) (lnP z n r) v fs W
 lt:w.heap.size+1+1<p
section
variable {w W W':World} {x:RcA} {m:MnA} {p:Nat} {z:List Int} {n r:Int} {v v':Value} {fs:List Fld} {f:Fld}
theorem PS.below (h:PS w x m p z n r v fs W) (hb:Below W.heap.size W W'):PS w x m p z n r v fs W':=
 ⟨h.b.trans (hb.mono h.b.size),h.x1.below hb h.x1.lt,MnAt.below h.m1 hb (MnAt.lt h.m1),h.r0.below hb h.r0.lt,h.j.below hb,h.lt⟩
structure PM (w:World) (x:RcA) (m:MnA) (p:Nat) (z:List Int) (n r:Int) (v v':Value) (fs:List Fld) (W:World):Prop where
 b:Below w.heap.size w W
 x1:XAt W w.heap.size x
 m1:MnAt W (w.heap.size+1) m
 r0:XAt W (w.heap.size+1+1) rcA0
 j:RM TFl 59 36 p (p+1) (lnP z n r) v v' fs W
 lt:w.heap.size+1+1<p
theorem PS.grown (h:PS w x m p z n r v fs W) (hO:W'.ownsRow (p+1) 59 KFl.n v' (fs.length+1) ((fs++[f]).flatMap KFl.cs)) (hG:W.grownBy W' v.ownBlock):PM w x m p z n r v v' (fs++[f]) W':=by
 have hp:=h.lt;have ne:∀ q,q≤p→some q≠v.ownBlock:=fun q hq e=>by have:=own_base h.j.own e.symm;omega
 exact⟨h.b.grown hG h.b.size (fun g hg=>by have:=own_base h.j.own hg;omega),h.x1.same (hG.block _ h.x1.lt (ne _ (by omega))),(hG.block _ (MnAt.lt h.m1) (ne _ (by omega))).trans h.m1,h.r0.same (hG.block _ h.r0.lt (ne _ (by omega))),
  h.j.grown ⟨trivial,trivial⟩ hO hG (by simp[TFl]),h.lt⟩
theorem PM.store (h:PM w x m p z n r v v' fs W) (hz:z.length=16):PS w x m p z n r v' fs (W.setCell ⟨p,18,none⟩ v'):=by
 have hp:=h.lt;have ne:∀ q,q<p→(W.setCell ⟨p,18,none⟩ v').heap[q]?=W.heap[q]?:=fun q hq=>Below.heap_setCell _ _ _ _ (by show q≠p;omega);exact⟨h.b.setCell (by show w.heap.size≤p;omega) _,h.x1.same (ne _ (by omega)),(ne _ (by omega)).trans h.m1,h.r0.same (ne _ (by omega)),h.j.store (by simp[TFl]) (lnP_len hz n r),h.lt⟩
end
theorem build_z1 {z:List Int} (h:z.length=16) (w:World):(Instr.build 36 #[(0,.agg (bvals z))]).run Tryz.prog w=.ok (.agg (RcA.cells ⟨⟨z,0,0,[]⟩,none,0⟩)) w:=by
 refine run_build w _ _ _ ?_;exact Tta55
theorem load_flP {w:World} {b o:Nat} {f:Fld} (h:KFl.at w b o f):(loadVar 59 ⟨b,o,none⟩).run Tryz.prog w=.ok (.agg (KFl.cs f).toArray) w:=
 Kind.at_load h rfl Tryz.underlying59 rfl (by obtain⟨i,hi,_,hs,_⟩:=info_parts infoFldK;rw[hi];exact congrArg some hs)
def KCl:Kind Cel:={ n:=3,pos:=by decide,cs:=fun c=>[.int .i64 c.n,.int .i64 c.r,.string c.s],d:=cel00,ok:=fun _ _=>True,len:=fun _=>rfl,one:=fun c u hu=>by (simp only[List.mem_cons,List.not_mem_nil,or_false]at hu);rcases hu with rfl | rfl | rfl<;>rfl,below:=fun h _=>h}
theorem fl_cell {w:World} {b o:Nat} {f:Fld} (h:KFl.at w b o f):KCl.at w b (o+1) f.c:=fun j hj=>by
 have h1:=h (1+j) (by have:j<3:=hj;show 1+j<4;omega);rw[← Nat.add_assoc]at h1;refine h1.trans ?_
 match j,hj with
 | 0,_=>rfl
 | 1,_=>rfl
 | 2,_=>rfl
theorem load_fcell {w:World} {b o:Nat} {f:Fld} (h:KFl.at w b o f):(loadVar 38 ⟨b,o+1,none⟩).run Tryz.prog w=.ok (.agg #[.int .i64 f.c.n,.int .i64 f.c.r,.string f.c.s]) w:=
 Kind.at_load (fl_cell h) rfl Tryz.underlying38 rfl (by kernel_rfl)
theorem fl_no {w:World} {b o:Nat} {f:Fld} (h:KFl.at w b o f):w.cell? ⟨b,o,none⟩=some (.int .i64 f.no):=h 0 (by decide)
theorem ldead_A (m:MnA) (z:List Int):ldead m.m z=(((lineA m.ls z).getD lnA0).x.n,((lineA m.ls z).getD lnA0).x.r):=by
 unfold ldead;have h1:=lineA_x m.ls z;rw[show m.m.ls=m.ls.map (·.x) from rfl,← h1];cases lineA m.ls z<;>rfl
theorem filt_take {p:Fld→Bool} {fs:List Fld} {k:Nat} (h:k<fs.length):(fs.take (k+1)).filter p=(fs.take k).filter p++(if p (fs.getD k fld0)=true then [fs.getD k fld0] else []):=by
 rw[List.take_succ_eq_append_getElem h,List.filter_append,List.getD_eq_getElem?_getD,List.getElem?_eq_getElem h];simp only[Option.getD_some,List.filter_cons,List.filter_nil]
def PartPost (w:World) (V:Rc) (e:Ending) (w':World):Prop:=∃ y:RcA,e=.returned (.agg y.cells)∧y.R=V∧RvAt w' y∧FTag w' y.A∧Below w.heap.size w w'
def PPok (x:Rc) (m:Mn) (n r:Int):Prop:=(pless x m=true∧n=x.n∧r=x.r)∨(pless x m=false∧n=0∧r=0)
theorem ppart_eq {x:Rc} {m:Mn} {n r:Int} {fs:List Fld} (h:PPok x m n r) (hf:fs=pfs x m):(⟨x.z,n,r,fs⟩:Rc)=ppart m x:=by
 unfold ppart;rcases h with ⟨h1,rfl,rfl⟩ | ⟨h1,rfl,rfl⟩<;>rw[h1,hf]<;>rfl
end
section
open Go.RowKit WM
theorem XAt.kept_map {w w':World} {b bm n:Nat} {x:RcA} {es:List RcA} (h:XAt w b x) (hg:w.grownBy w' (some bm)) (hm:MRs w bm n es):XAt w' b x:=h.same (hg.block b h.lt (fun e=>by
 obtain⟨E,cl,ho⟩:=hm.obj;rw[← Option.some.inj e,h.2]at ho;cases ho))
theorem Tta27 {p:Prop} (h:p:=by
  rw[List.take_succ_eq_append_getElem hk,List.map_append,List.foldl_append];simp only[List.map_cons,List.map_nil,List.foldl_cons,List.foldl_nil,List.getD,List.getElem?_eq_getElem hk,Option.getD_some]
 ):p:=h
theorem gather_snoc {xs:List RcA} {k:Nat} (hk:k<xs.length):((xs.take (k+1)).map (·.R)).foldl mput []=mput (((xs.take k).map (·.R)).foldl mput []) (xs.getD k rcA0).R:=by
 exact Tta27
def BGatherPost (w:World) (rs:List Rc) (e:Ending) (w':World):Prop:=∃ b n es,e=.returned (.map (some b))∧w.heap.size≤b∧MRs w' b n es∧es.map (·.R)=rs.foldl mput []∧Below w.heap.size w w'
theorem Tta20 {p:Prop} (h:p:=by
  have hrun:=HRUN.out;go_simp;refine hK.out _ _ HS5.out (fun _=>?_);clear hK K hS hrun;refine wpAnyH_done (by kernel_rfl) ?_ _;go_wp2;go_roundw
  case rel=>exact⟨k+1,by omega,by go_num,_,HM5.out,HEQ5.out,HMAY5.out,HB5.out⟩
  case measure=>simp[intOf];omega
 ):p:=h
theorem bgather_any (A:Option Addr) (len c:Nat) (xs:List RcA) (w:World) (hlaid:Laid w) (hl:xs.length=len) (hlen:len≤900) (h:RsAt w A c xs) (hm:∀ x∈xs,x.R.may=true):
  Calls Tryz.prog 52 #[.slice A len c] w (BGatherPost w (xs.map (·.R))):=by
 have HRV:=Yy (fun i (hi:i<len)=>RsAt.rv h (show i<xs.length by omega));have HMY:=Yy (fun i (hi:i<len)=>show (xs.getD i rcA0).R.may=true by rw[List.getD_eq_getElem?_getD,List.getElem?_eq_getElem (show i<xs.length by omega)];exact hm _ (List.getElem_mem _));obtain⟨hc1,hc2,hc3,hcell,_⟩:=h;simp only[maxLen]at hc2;have HC:=Yy hcell;have HLN:=Yy hl;have HLA:=Yy (fun (X:World) (hX:Below w.heap.size w X)=>hlaid.below hX Nl);have H0:=Yy (And.intro (MRs.made w) ((Below.refl w.heap.size w).alloc Nl (.map #[] 0)));have hmm:=@run_makeMap Tryz.prog;have hlc:len≤c:=by omega
 have hz:=zeroX;clear hcell hc1 hl hlaid hm;go_enter Tryz.func52,Tryz.ntmps52;go_wp2;go_loopw [11] (fun i wr=>∃ k:Nat,k≤len∧i=.int .i64 k∧∃ es,MRs wr w.heap.size k es∧es.map (·.R)=((xs.take k).map (·.R)).foldl mput []∧(∀ x∈es,x.R.may=true)∧Below w.heap.size w wr) (fun i _=>len - (intOf i).toNat)
 case atStart=>exact⟨0,Nat.zero_le _,rfl,[],H0.out.1,rfl,(fun x hx=>absurd hx (by simp)),H0.out.2⟩
 case round=>
  obtain⟨k,hk,rfl,es,hM,heq,hmay,hb⟩:=hrel;by_cases hlt:k<len
  ·obtain⟨b0,off,rfl,hbB,hcc⟩:=HC.out (by rw[HLN.out];omega);have hx:=(hcc k (by rw[HLN.out];exact hlt)).same (hb.block b0 hbB);have IX:=ix_rec b0 off len c k hlt k rfl;have hvx:=(HRV.out k hlt).below hb Nl;have hmx:=HMY.out k hlt;have hgs:=gather_snoc (xs:=xs) (k:=k) (by rw[HLN.out];exact hlt);generalize xs.getD k rcA0=x at *;generalize off+k*19=ox at *;have LX:=Yy hx.load;have HVX:=Yy hvx;have HMX0:=Yy hmx;have ZX:=Yy hvx.len;have HGS:=Yy hgs;have HEQ:=Yy heq;have HMAY:=Yy hmay;have HMM:=Yy hM;have HBB:=Yy hb;have HXL:=Yy (rmay_len hmx);clear hcc hx hvx hmx hgs heq hmay hM hb;cases hxat:xat es x.R.z with
   | none=>
    have HXA:=Yy hxat;have ZO:=Yy (show rcA0.R.z.length=16 from z16_len);clear hxat;go_wp2_with (first | ((with_reducible refine YyL 36 (.tmp 13) ⟨b0,ox,none⟩ LX.out ?_ ?_ ?_);rfl;rfl) | ((with_reducible refine wpList_store_newx (o:=⟨none,.store 36 (.tmp 5) (.tmp 14),_,_,_,_⟩) (w:=wr) ?_ (.tmp 5) (.tmp 14) ?_ wr.heap.size ?_ ?_ x ?_ ZX.out ?_);rfl;rfl;rfl;rfl;rfl;intro w2 hb2 hx2 hs2;have X2:=Yy hx2;have HW2:=Yy hb2;have LI:=Yy hx2.load_id;have HM2:=Yy (HMM.out.below hb2 Nl);have LK:=HM2.out.look HVX.out.len HVX.out.1.2;rw[HXA.out]at LK;dsimp only[Option.getD_none,Option.getD_some,Option.isSome_none,Option.isSome_some]at LK;clear hx2 hb2 hs2) | ((with_reducible refine YyL 31 (.tmp 17) ⟨wr.heap.size,0,none⟩ LI.out ?_ ?_ ?_);rfl;rfl) | ((with_reducible refine wpList_store_newx (o:=⟨none,.store 36 (.tmp 6) (.tmp 20),_,_,_,_⟩) (w:=w2) ?_ (.tmp 6) (.tmp 20) ?_ w2.heap.size ?_ ?_ rcA0 ?_ ZO.out ?_);rfl;rfl;rfl;rfl;rfl;intro w3 hb3 hx3 hs3;have X3:=Yy (X2.out.below hb3 X2.out.lt);have O3:=Yy hx3;have HM3:=Yy (HM2.out.below hb3 Nl);have HB3:=Yy (HBB.out.trans ((HW2.out.trans (hb3.mono HW2.out.size)).mono HBB.out.size));have HV3:=Yy ((HVX.out.below HW2.out Nl).below hb3 Nl);have HO:=Yy (fun (w9:World) (hS:Below w3.heap.size w3 w9)=>own_any x w9 (HV3.out.below hS Nl) (by have:=HXL.out;omega));unfold OwnPost at HO;clear hx3 hb3 hs3 LK));refine wp_region_held_drew (S:=fun w'=>XAt w' wr.heap.size x∧XAt w' w2.heap.size rcA0) (by kernel_rfl) ⟨X3.out,O3.out⟩ (fun hS=>?_)
    refine YHd 0 (some 24) _ rfl hS (fun w9 hSw=>by (try dsimp only at hSw);go_simp;try with_reducible rfl) ?_;refine YHd 1 (some 25) _ rfl hS (fun w9 hSw=>by (try dsimp only at hSw);go_simp;try with_reducible rfl) ?_;refine YHd 2 (some 26) (.agg (bvals x.R.z)) rfl hS (fun w9 hSw=>by (try dsimp only at hSw);exact exec_load_by 31 _ rfl ⟨wr.heap.size,0,none⟩ rfl hSw.1.load_id) ?_;refine YHd 3 (some 27) (.agg x.cells) rfl hS (fun w9 hSw=>by (try dsimp only at hSw);exact exec_load_by 36 _ rfl ⟨wr.heap.size,0,none⟩ rfl hSw.1.load) ?_;refine wpAnyH_ready (rs:=[4]) (by kernel_rfl) (by simp) (AllReadyH.cons (o:=⟨some 28,_,_,_,_,_⟩) rfl (fun K hK=>?_) AllReadyH.nil);go_simp;refine (HO.out _ (Below.refl w3.heap.size w3).drew).mono ?_;rintro e x0 ⟨y,rfl,hyR,hy,hb0⟩;have hbx:Below w3.heap.size w3 x0:=((Below.refl w3.heap.size w3).drew).trans (hb0.mono Nl);clear hS;refine hK.out _ _ ⟨X3.out.below hbx X3.out.lt,O3.out.below hbx O3.out.lt⟩ (fun hS=>?_);clear hK K;have YZ:y.R.z=x.R.z:=by rw[hyR]
    have YR:y.R=bone (bat (es.map (·.R)) x.R.z) x.R:=by rw[xat_bat,HXA.out];exact hyR
    have YM:y.R.may=true:=by rw[hyR];exact HMX0.out
    have HMX:=Yy ((HM3.out.below hbx Nl));have HBW:=Yy (HB3.out.trans (hbx.mono HB3.out.size));obtain⟨w5,hrun,hm5,hg5⟩:=HMX.out.store (by omega) hy;rw[show y.R.z=x.R.z from YZ]at hrun;have HRUN:=Yy hrun;have HM5:=Yy hm5;have HB5:=Yy (HBW.out.grown hg5 HBW.out.size (fun k e=>by cases e;exact Nat.le_refl _));have HEQ5:Hid ((xput es y).map (·.R)=((xs.take (k+1)).map (·.R)).foldl mput []):=Yy (by rw[HGS.out,← HEQ.out];exact xput_mput HMX.out.keys (r:=x.R) YZ.symm YR);have HMAY5:Hid (∀ x∈xput es y,x.R.may=true):=Yy (fun u hu=>by
     rcases xput_mem hu with rfl | hu
     ·exact YM
     ·exact HMAY.out u hu)
    have HS5:=Yy (And.intro (hS.1.kept_map hg5 HMX.out) (hS.2.kept_map hg5 HMX.out));clear hrun hm5 hg5 hy hyR hb0 hbx YZ YR YM;refine wpAnyH_ready (rs:=[5]) (by kernel_rfl) (by simp) (AllReadyH.cons (o:=⟨none,_,_,_,_,_⟩) rfl (fun K hK=>?_) AllReadyH.nil);exact Tta20
   | some o=>
    have HXA:=Yy hxat;have HOM:=Yy (xat_some hxat).1;have HOZ:=Yy (xat_some hxat).2;have ZO:=Yy (HMM.out.rv o HOM.out).len;have HJN:=Yy (join_eq (HMAY.out o HOM.out) HMX0.out HOZ.out);clear hxat
    go_wp2_with (first | ((with_reducible refine YyL 36 (.tmp 13) ⟨b0,ox,none⟩ LX.out ?_ ?_ ?_);rfl;rfl) | ((with_reducible refine wpList_store_newx (o:=⟨none,.store 36 (.tmp 5) (.tmp 14),_,_,_,_⟩) (w:=wr) ?_ (.tmp 5) (.tmp 14) ?_ wr.heap.size ?_ ?_ x ?_ ZX.out ?_);rfl;rfl;rfl;rfl;rfl;intro w2 hb2 hx2 hs2;have X2:=Yy hx2;have HW2:=Yy hb2;have LI:=Yy hx2.load_id;have HM2:=Yy (HMM.out.below hb2 Nl);have LK:=HM2.out.look HVX.out.len HVX.out.1.2;rw[HXA.out]at LK;dsimp only[Option.getD_none,Option.getD_some,Option.isSome_none,Option.isSome_some]at LK;clear hx2 hb2 hs2) | ((with_reducible refine YyL 31 (.tmp 17) ⟨wr.heap.size,0,none⟩ LI.out ?_ ?_ ?_);rfl;rfl) | ((with_reducible refine wpList_store_newx (o:=⟨none,.store 36 (.tmp 6) (.tmp 20),_,_,_,_⟩) (w:=w2) ?_ (.tmp 6) (.tmp 20) ?_ w2.heap.size ?_ ?_ o ?_ ZO.out ?_);rfl;rfl;rfl;rfl;rfl;intro w3 hb3 hx3 hs3;have X3:=Yy (X2.out.below hb3 X2.out.lt);have O3:=Yy hx3;have HM3:=Yy (HM2.out.below hb3 Nl);have HB3:=Yy (HBB.out.trans ((HW2.out.trans (hb3.mono HW2.out.size)).mono HBB.out.size));have HV3:=Yy ((HVX.out.below HW2.out Nl).below hb3 Nl);have HJ:=Yy (fun (w9:World) (hS:Below w3.heap.size w3 w9)=>xjoin_any o x w9 (HLA.out _ (HB3.out.trans (hS.mono HB3.out.size))) (HM3.out.rv o HOM.out |>.below hS Nl) (HV3.out.below hS Nl));rw[HJN.out]at HJ;dsimp only[Option.getD_some,Option.isSome_some]at HJ;clear hx3 hb3 hs3 LK))
    refine wp_region_held_drew (S:=fun w'=>XAt w' wr.heap.size x∧XAt w' w2.heap.size o) (by kernel_rfl) ⟨X3.out,O3.out⟩ (fun hS=>?_);refine YHd 0 (some 30) _ rfl hS (fun w9 hSw=>by (try dsimp only at hSw);go_simp;try with_reducible rfl) ?_;refine YHd 1 (some 31) _ rfl hS (fun w9 hSw=>by (try dsimp only at hSw);go_simp;try with_reducible rfl) ?_;refine YHd 2 (some 32) (.agg (bvals x.R.z)) rfl hS (fun w9 hSw=>by (try dsimp only at hSw);exact exec_load_by 31 _ rfl ⟨wr.heap.size,0,none⟩ rfl hSw.1.load_id) ?_;refine YHd 3 (some 33) (.agg o.cells) rfl hS (fun w9 hSw=>by (try dsimp only at hSw);exact exec_load_by 36 _ rfl ⟨w2.heap.size,0,none⟩ rfl hSw.2.load) ?_;refine YHd 4 (some 34) (.agg x.cells) rfl hS (fun w9 hSw=>by (try dsimp only at hSw);exact exec_load_by 36 _ rfl ⟨wr.heap.size,0,none⟩ rfl hSw.1.load) ?_;refine wpAnyH_ready (rs:=[5]) (by kernel_rfl) (by simp) (AllReadyH.cons (o:=⟨some 35,_,_,_,_,_⟩) rfl (fun K hK=>?_) AllReadyH.nil);go_simp;refine (HJ.out _ (Below.refl w3.heap.size w3).drew).mono ?_;rintro e x0 ⟨y,rfl,hyR,hy,hb0⟩;have hbx:Below w3.heap.size w3 x0:=((Below.refl w3.heap.size w3).drew).trans (hb0.mono Nl);clear hS;refine hK.out _ _ ⟨X3.out.below hbx X3.out.lt,O3.out.below hbx O3.out.lt⟩ (fun hS=>?_);clear hK K;have YZ:y.R.z=x.R.z:=by rw[hyR,jn_z];exact HOZ.out
    have YR:y.R=bone (bat (es.map (·.R)) x.R.z) x.R:=by rw[xat_bat,HXA.out];exact hyR
    have YM:y.R.may=true:=by rw[hyR];exact jn_may (HMAY.out o HOM.out) HMX0.out
    have HMX:=Yy ((HM3.out.below hbx Nl));have HBW:=Yy (HB3.out.trans (hbx.mono HB3.out.size));obtain⟨w5,hrun,hm5,hg5⟩:=HMX.out.store (by omega) hy;rw[show y.R.z=x.R.z from YZ]at hrun;have HRUN:=Yy hrun;have HM5:=Yy hm5;have HB5:=Yy (HBW.out.grown hg5 HBW.out.size (fun k e=>by cases e;exact Nat.le_refl _));have HEQ5:Hid ((xput es y).map (·.R)=((xs.take (k+1)).map (·.R)).foldl mput []):=Yy (by rw[HGS.out,← HEQ.out];exact xput_mput HMX.out.keys (r:=x.R) YZ.symm YR);have HMAY5:Hid (∀ x∈xput es y,x.R.may=true):=Yy (fun u hu=>by
     rcases xput_mem hu with rfl | hu
     ·exact YM
     ·exact HMAY.out u hu)
    have HS5:=Yy (And.intro (hS.1.kept_map hg5 HMX.out) (hS.2.kept_map hg5 HMX.out));clear hrun hm5 hg5 hy hyR hb0 hbx YZ YR YM;refine YHd 6 (some 29) _ rfl hS (fun w9 hSw=>by (try dsimp only at hSw);go_simp;try with_reducible rfl) ?_;refine YHd 7 (some 36) _ rfl hS (fun w9 hSw=>by (try dsimp only at hSw);go_simp;try with_reducible rfl) ?_;refine YHd 8 (some 37) _ rfl hS (fun w9 hSw=>by (try dsimp only at hSw);go_simp;try with_reducible rfl) ?_;refine wpAnyH_ready (rs:=[9]) (by kernel_rfl) (by simp) (AllReadyH.cons (o:=⟨none,_,_,_,_,_⟩) rfl (fun K hK=>?_) AllReadyH.nil);exact Tta20
  ·obtain rfl:k=len:=by omega
   rw[List.take_of_length_le (by rw[HLN.out];exact Nat.le_refl _)]at heq;have HEQ:=Yy heq;have HMM:=Yy hM;have HBB:=Yy hb;clear heq hmay hM hb;go_wp2;go_ret;exact⟨_,_,_,rfl,Nat.le_refl _,HMM.out,HEQ.out,HBB.out⟩
end
end Go.Proofs.YtnlhkpmgbpfjmaaGreatDoor
