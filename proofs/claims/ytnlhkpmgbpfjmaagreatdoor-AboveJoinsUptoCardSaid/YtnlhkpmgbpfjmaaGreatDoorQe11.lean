import Derived.Test.YtnlhkpmgbpfjmaaGreatDoorQe9
import Derived.Test.YtnlhkpmgbpfjmaaGreatDoorQe10
/- What functions answer, part 11. -/
namespace Go.Proofs.YtnlhkpmgbpfjmaaGreatDoor
set_option linter.unusedVariables false
set_option linter.unusedSimpArgs false
set_option maxHeartbeats 16000000
set_option maxRecDepth 100000
section
section
open Go.RowKit Go.Shelf WM
attribute [local go_sem] Oper.semAt_some
def keep (n r:Int) (xs:List (Int×Cel)):List Fld:=xs.filterMap fun x=>if stLess n r x.2.n x.2.r then some ⟨x.1,x.2⟩ else none
theorem keep_snoc (n r:Int) (xs:List (Int×Cel)) (x:Int×Cel):keep n r (xs++[x])=keep n r xs++(if stLess n r x.2.n x.2.r then [⟨x.1,x.2⟩] else []):=by
 unfold keep;rw[List.filterMap_append]
 congr 1
 cases h:stLess n r x.2.n x.2.r<;>simp[h]
def jdead (n1 r1 n2 r2:Int):Int×Int:=mx (n1,r1) (n2,r2)
def rjoin (z1:List Int) (n1 r1:Int) (f1:List Fld) (z2:List Int) (n2 r2:Int) (f2:List Fld):Option Rc:=
 if ((z1 == z2) && rmay n1 r1 f1 && rmay n2 r2 f2)=true then some ⟨z1,(jdead n1 r1 n2 r2).1,(jdead n1 r1 n2 r2).2,keep (jdead n1 r1 n2 r2).1 (jdead n1 r1 n2 r2).2 (riseL (gath (f1++f2)) 8)⟩ else none
def JoinPost (w:World) (o:Option Rc) (e:Ending) (w':World):Prop:=
 ∃ A c,e=.returned (.tuple #[(o.getD rc0).v A c,.bool o.isSome])∧FsAt w' A c (o.getD rc0).fs∧Below w.heap.size w w'
theorem bodyM_ret {F:Fence} {n:Nat} {P:Program} {fn:Func} {R:Ending→World→Prop} {a:Act} {w:World} {v:Value} (hr:(results fn a.tmps).run P w=.ok v w) (hd:a.defers=[]) (hR:R (.returned v) w):bodyPostM F n P fn R .ret a w:=by
 show LeavesInM F n P fn a.tmps R a.defers .returning w;rw[hd];exact⟨_,hr,hR⟩
theorem Tta34 {p:Prop} (h:p:=by
  refine bodyM_ret (v:=.tuple #[rv z16 0 0 (.slice none 0 0),.bool false]) ?_ rfl ?_
  ·exact res_rc2 Tryz.results82 rfl FIN.out.1
  ·exact HV.out _ FIN.out.2
 ):p:=h
theorem join_no (z1:List Int) (n1 r1:Int) (A1:Option Addr) (l1 c1:Nat) (f1:List Fld) (z2:List Int) (n2 r2:Int) (A2:Option Addr) (l2 c2:Nat) (f2:List Fld) (w:World)
  (hz1:z1.length=16) (hz2:z2.length=16) (hb1:AllBytes z1) (hb2:AllBytes z2) (hl1:f1.length=l1) (hl2:f2.length=l2) (h1:FsAt w A1 c1 f1) (h2:FsAt w A2 c2 f2) (hno:((z1 == z2) && rmay n1 r1 f1 && rmay n2 r2 f2)=false):
  Calls Tryz.prog 82 #[rv z1 n1 r1 (.slice A1 l1 c1),rv z2 n2 r2 (.slice A2 l2 c2)] w (JoinPost w (rjoin z1 n1 r1 f1 z2 n2 r2 f2)):=by
 have HV:Hid (∀ w',Below w.heap.size w w'→JoinPost w (rjoin z1 n1 r1 f1 z2 n2 r2 f2) (.returned (.tuple #[rv z16 0 0 (.slice none 0 0),.bool false])) w'):=Yy (fun w' hb=>by
  rw[rjoin,if_neg (by rw[hno];simp)];exact⟨none,0,rfl,FsAt.nil _ _ _ (by decide) (fun _=>rfl),hb⟩)
 have S0:=Yy (RcAt.new ((w.alloc (.cells (rcells z1 n1 r1 (.slice A1 l1 c1)) 36)).alloc (.cells (rcells z2 n2 r2 (.slice A2 l2 c2)) 36)) z16_len 0 0 (.slice none 0 0));rw[World.size_alloc,World.size_alloc]at S0;have S1:=Yy (((RcAt.new w hz1 n1 r1 (.slice A1 l1 c1)).old (.cells (rcells z2 n2 r2 (.slice A2 l2 c2)) 36)).old (.cells (rcells z16 0 0 (.slice none 0 0)) 36));have s2:=(RcAt.new (w.alloc (.cells (rcells z1 n1 r1 (.slice A1 l1 c1)) 36)) hz2 n2 r2 (.slice A2 l2 c2)).old (.cells (rcells z16 0 0 (.slice none 0 0)) 36);rw[World.size_alloc]at s2;have S2:=Yy s2;have HB:=Yy ((((Below.refl w.heap.size w).alloc Nl (.cells (rcells z1 n1 r1 (.slice A1 l1 c1)) 36)).alloc (by simp) (.cells (rcells z2 n2 r2 (.slice A2 l2 c2)) 36)).alloc (by simp;omega) (.cells (rcells z16 0 0 (.slice none 0 0)) 36));have L1:=Yy (load_id S1.out);have L2:=Yy (load_id S2.out);have M1:=Yy (load_rec S1.out);have HE:=eq_id hb1 hb2 hz1 hz2;have hz:=zeroRec;have hbn:=build_none;unfold rv at hz hbn M1;have HM1:=Yy (rmay_any z1 n1 r1 A1 l1 c1 f1 _ hz1 hl1 (h1.below HB.out Nl));unfold rv MayPost at HM1;have HL2:=Yy hl2;have H2:=Yy h2;clear s2 h1 h2 hl1 hl2
 conv=>congr;rfl;rfl;(unfold rv)
 generalize JoinPost w (rjoin z1 n1 r1 f1 z2 n2 r2 f2)=RR at HV;cases hq:(z1 == z2)
 ·rw[hq]at HE;clear hq hno;refine (callsIn_wide (n:=12)).1 ?_;refine callsIn_of_wp_marks Tryz.func82 rfl trivial ?_ rfl;simp only[Tryz.ntmps82,List.size_toArray,List.length_cons,List.length_nil,Nat.reduceAdd,Nat.reduceSub,Array.replicate_succ,Array.replicate_zero,List.push_toArray,List.append_toArray,List.nil_append,List.cons_append];refine wpIn_wide.2 ?_;have SZ:=Yy (size_rcells z16_len 0 0 (.slice none 0 0));have SO:=Yy (rcells_one (z:=z16) (n:=0) (r:=0) (v:=(.slice none 0 0)) rfl);have FIN:=Yy (And.intro (S0.out.putAll (m:=0) (s:=0) (u:=(.slice none 0 0)) z16_len) (below_setRow HB.out (show w.heap.size≤w.heap.size+1+1 by omega) (rcells z16 0 0 (.slice none 0 0))));go_wp2_with (first | ((with_reducible refine YyL 31 (.tmp 9) ⟨w.heap.size,0,none⟩ L1.out ?_ ?_ ?_);rfl;rfl) | ((with_reducible refine YyL 31 (.tmp 11) ⟨(w.heap.size+1),0,none⟩ L2.out ?_ ?_ ?_);rfl;rfl) | ((with_reducible refine YyL 36 (.tmp 2) ⟨w.heap.size,0,none⟩ M1.out ?_ ?_ ?_);rfl;rfl) | ((with_reducible refine wpList_store_row (o:=⟨none,.store 36 (.tmp 4) (.tmp 24),_,_,_,_⟩) ?_ 36 (.tmp 4) (.tmp 24) ?_ (w.heap.size+1+1) (rcells z16 0 0 (.slice none 0 0)) ?_ ?_ 36 _ S0.out.hp SZ.out rfl SO.out ?_);rfl;rfl;rfl;rfl));exact Tta34
 ·rw[hq]at HE hno;rw[Bool.true_and]at hno;cases hm1:rmay n1 r1 f1
  ·rw[hm1]at HM1;clear hq hno hm1;refine (callsIn_wide (n:=12)).1 ?_;refine callsIn_of_wp_marks Tryz.func82 rfl trivial ?_ rfl;simp only[Tryz.ntmps82,List.size_toArray,List.length_cons,List.length_nil,Nat.reduceAdd,Nat.reduceSub,Array.replicate_succ,Array.replicate_zero,List.push_toArray,List.append_toArray,List.nil_append,List.cons_append];refine wpIn_wide.2 ?_;go_wp2_with (first | ((with_reducible refine YyL 31 (.tmp 9) ⟨w.heap.size,0,none⟩ L1.out ?_ ?_ ?_);rfl;rfl) | ((with_reducible refine YyL 31 (.tmp 11) ⟨(w.heap.size+1),0,none⟩ L2.out ?_ ?_ ?_);rfl;rfl) | ((with_reducible refine YyL 36 (.tmp 2) ⟨w.heap.size,0,none⟩ M1.out ?_ ?_ ?_);rfl;rfl));refine HM1.out.mono ?_;rintro e w1 ⟨rfl,hb1⟩;have P2:=Yy (S2.out.below hb1 S2.out.lt);have P0:=Yy (S0.out.below hb1 S0.out.lt);have BW1:=Yy (HB.out.trans (hb1.mono HB.out.size));clear hb1;have SZ:=Yy (size_rcells z16_len 0 0 (.slice none 0 0));have SO:=Yy (rcells_one (z:=z16) (n:=0) (r:=0) (v:=(.slice none 0 0)) rfl);have FIN:=Yy (And.intro (P0.out.putAll (m:=0) (s:=0) (u:=(.slice none 0 0)) z16_len) (below_setRow BW1.out (show w.heap.size≤w.heap.size+1+1 by omega) (rcells z16 0 0 (.slice none 0 0))));go_wp2_with (first | ((with_reducible refine wpList_store_row (o:=⟨none,.store 36 (.tmp 4) (.tmp 24),_,_,_,_⟩) ?_ 36 (.tmp 4) (.tmp 24) ?_ (w.heap.size+1+1) (rcells z16 0 0 (.slice none 0 0)) ?_ ?_ 36 _ P0.out.hp SZ.out rfl SO.out ?_);rfl;rfl;rfl;rfl));exact Tta34
  ·rw[hm1]at HM1 hno;have hm2:rmay n2 r2 f2=false:=by simpa using hno
   clear hq hno hm1;refine (callsIn_wide (n:=12)).1 ?_;refine callsIn_of_wp_marks Tryz.func82 rfl trivial ?_ rfl;simp only[Tryz.ntmps82,List.size_toArray,List.length_cons,List.length_nil,Nat.reduceAdd,Nat.reduceSub,Array.replicate_succ,Array.replicate_zero,List.push_toArray,List.append_toArray,List.nil_append,List.cons_append];refine wpIn_wide.2 ?_;go_wp2_with (first | ((with_reducible refine YyL 31 (.tmp 9) ⟨w.heap.size,0,none⟩ L1.out ?_ ?_ ?_);rfl;rfl) | ((with_reducible refine YyL 31 (.tmp 11) ⟨(w.heap.size+1),0,none⟩ L2.out ?_ ?_ ?_);rfl;rfl) | ((with_reducible refine YyL 36 (.tmp 2) ⟨w.heap.size,0,none⟩ M1.out ?_ ?_ ?_);rfl;rfl));refine HM1.out.mono ?_;rintro e w1 ⟨rfl,hb1⟩;have P2:=Yy (S2.out.below hb1 S2.out.lt);have P0:=Yy (S0.out.below hb1 S0.out.lt);have BW1:=Yy (HB.out.trans (hb1.mono HB.out.size));clear hb1;have M2:=Yy (load_rec P2.out);unfold rv at M2;have HM2:=Yy (rmay_any z2 n2 r2 A2 l2 c2 f2 w1 hz2 HL2.out (H2.out.below BW1.out Nl));unfold rv MayPost at HM2;rw[hm2]at HM2;go_wp2_with (first | ((with_reducible refine YyL 36 (.tmp 3) ⟨(w.heap.size+1),0,none⟩ M2.out ?_ ?_ ?_);rfl;rfl));refine HM2.out.mono ?_;rintro e w2 ⟨rfl,hb2⟩;have Q0:=Yy (P0.out.below hb2 P0.out.lt);have BW2:=Yy (BW1.out.trans (hb2.mono BW1.out.size));clear hb2;have SZ:=Yy (size_rcells z16_len 0 0 (.slice none 0 0));have SO:=Yy (rcells_one (z:=z16) (n:=0) (r:=0) (v:=(.slice none 0 0)) rfl)
   have FIN:=Yy (And.intro (Q0.out.putAll (m:=0) (s:=0) (u:=(.slice none 0 0)) z16_len) (below_setRow BW2.out (show w.heap.size≤w.heap.size+1+1 by omega) (rcells z16 0 0 (.slice none 0 0))));go_wp2_with (first | ((with_reducible refine wpList_store_row (o:=⟨none,.store 36 (.tmp 4) (.tmp 24),_,_,_,_⟩) ?_ 36 (.tmp 4) (.tmp 24) ?_ (w.heap.size+1+1) (rcells z16 0 0 (.slice none 0 0)) ?_ ?_ 36 _ Q0.out.hp SZ.out rfl SO.out ?_);rfl;rfl;rfl;rfl));exact Tta34
end
section
open Go.RowKit Go.Shelf WM
section
variable {W W':World} {row:Option Nat} {b:Nat} {z:List Int} {n r:Int} {v u:Value} {base k:Nat} {xs:List Value}
theorem RcAt.kept (h:RcAt W b z n r v) (hg:W.grownBy W' row) (hne:some b≠row):RcAt W' b z n r v:=⟨h.1,(hg.block b h.lt hne).trans h.2⟩
theorem RcAt.not_row (h:RcAt W b z n r v) (hr:W.ownsRow base 59 4 u k xs):some b≠u.ownBlock:=by
 rcases hr.2 with ⟨rfl,_⟩ | ⟨g,cap,cur,rfl,_,hgb,_⟩
 ·simp[Value.ownBlock]
 ·intro e';obtain rfl:b=g:=by simpa [Value.ownBlock] using e'
  have:=h.2.symm.trans hgb;simp at this
theorem RcAt.turned (h:RcAt W b z n r v) (hg:W.grownBy W' row) (hr:∀ r,row=some r→∃ o:Obj,W.heap[r]?=some o∧o.isCells=false):RcAt W' b z n r v:=
 h.kept hg (fun e=>by
  obtain⟨o,ho,hc⟩:=hr b e.symm;rw[h.2]at ho;cases ho;cases hc)
theorem own_turned {e:TypeId} {size:Nat} (h:W.ownsRow base e size v k xs) (hg:W.grownBy W' row) (hr:∀ r,row=some r→∃ o:Obj,W.heap[r]?=some o∧o.isCells=false):W'.ownsRow base e size v k xs:=by
 refine h.kept hg ?_;rcases h.2 with ⟨rfl,_⟩ | ⟨g,cap,cur,rfl,_,hgb,_⟩
 ·exact .inl rfl
 ·refine .inr fun e'=>?_;obtain⟨o,ho,hc⟩:=hr g (by simpa [Value.ownBlock] using e'.symm);rw[hgb]at ho;cases ho;cases hc
theorem grownBy_setCell18 (W:World) (b j:Nat) (v:Value):W.grownBy (W.setCell ⟨b,j,none⟩ v) (some b):=
 ⟨rfl,rfl,rfl,(KeepsWalks.setCell W _ v).size,fun k _ hk=>Below.heap_setCell _ _ _ k (fun e=>hk (by rw[e]))⟩
theorem KeepsFrom.of_below {B:Nat} (h:Below W.heap.size W W'):KeepsFrom B W W':=⟨h.size,fun k o _ hk _=>(h.block k (Array.getElem?_eq_some_iff.1 hk).1).trans hk⟩
end
def JI (w:World) (n0 g b2:Nat) (z:List Int) (m:Int×Int) (pre:List (Int×Cel)) (W:World):Prop:=
 ∃ v,RcAt W g z m.1 m.2 v∧W.ownsRow n0 59 4 v (keep m.1 m.2 pre).length ((keep m.1 m.2 pre).flatMap Fld.cs)∧RcAt W b2 z16 0 0 (.slice none 0 0)∧Below w.heap.size w W∧n0≤W.heap.size
theorem JI_own {w:World} {n0 g b2:Nat} {z:List Int} {m:Int×Int} {B:Nat} (hB:w.heap.size≤B):OwnFrom B (JI w n0 g b2 z m):=by
 rintro s X Y row ⟨v,h1,h2,h3,h4,h5⟩ hg hr;have hr':∀ r,row=some r→∃ o:Obj,X.heap[r]?=some o∧o.isCells=false:=fun r e=>(hr r e).2;exact⟨v,h1.turned hg hr',own_turned h2 hg hr',h3.turned hg hr',ownFrom_below (β:=Unit) Nl hB () X Y row h4 hg hr,Nat.le_trans h5 hg.size⟩
theorem JI.below {w W W':World} {n0 g b2:Nat} {z:List Int} {m:Int×Int} {pre:List (Int×Cel)} (h:JI w n0 g b2 z m pre W) (hb:Below W.heap.size W W'):JI w n0 g b2 z m pre W':=by
 obtain⟨v,h1,h2,h3,h4,h5⟩:=h;exact⟨v,h1.below hb h1.lt,own_below h2 hb,h3.below hb h3.lt,h4.trans (hb.mono h4.size),Nat.le_trans h5 hb.size⟩
theorem JI.dead {w W:World} {n0 g b2:Nat} {z:List Int} {m:Int×Int} {pre:List (Int×Cel)} {x:Int×Cel} (h:JI w n0 g b2 z m pre W) (hl:stLess m.1 m.2 x.2.n x.2.r=false):JI w n0 g b2 z m (pre++[x]) W:=by
 have e:keep m.1 m.2 (pre++[x])=keep m.1 m.2 pre:=by rw[keep_snoc,hl];simp
 obtain⟨v,h1,h2,h3⟩:=h;exact⟨v,h1,by rw[e];exact h2,h3⟩
theorem fld_cell (w:World) (f:Fld) (t:TypeId):∀ (j:Nat) (u:Value),(Fld.cs f)[j]?=some u→(w.alloc (.cells #[.int .i64 f.no,.int .i64 f.c.n,.int .i64 f.c.r,.string f.c.s] t)).cell? ((⟨w.heap.size,0,none⟩:Addr).add j)=some u:=by
 intro j u hu;have hh:=heap_alloc_new w (.cells #[.int .i64 f.no,.int .i64 f.c.n,.int .i64 f.c.r,.string f.c.s] t);rw[Addr.add_lit,cell_of_row _ _ _ _ _ _ hh,Nat.zero_add,List.getElem?_toArray];exact hu
theorem keep_len (n r:Int) (pre:List (Int×Cel)):(keep n r pre).length≤pre.length:=List.length_filterMap_le _ _
theorem Tta31 {p:Prop} (h:p:=by
  rcases hO.2 with ⟨rfl,_⟩ | ⟨g',cap,cur,rfl,_,hgb,_⟩
  ·simp[Value.ownBlock]at ej
  ·obtain rfl:g'=j:=by simpa [Value.ownBlock] using ej
   rw[hgb]at hj;cases hj;rfl
 ):p:=h
theorem JI_step {w W w1:World} {n0 g b2 Bx bm:Nat} {z:List Int} {m:Int×Int} {pre:List (Int×Cel)} {x:Int×Cel} {v v':Value} (hlive:stLess m.1 m.2 x.2.n x.2.r=true)
  (hG:RcAt W g z m.1 m.2 v) (hO:W.ownsRow n0 59 4 v (keep m.1 m.2 pre).length ((keep m.1 m.2 pre).flatMap Fld.cs)) (hR:RcAt W b2 z16 0 0 (.slice none 0 0)) (hB:Below w.heap.size w W)
  (hwn:w.heap.size≤n0) (hwg:w.heap.size≤g) (hbg:b2≠g) (hb2:b2<n0) (hBx:Bx<n0) (hbm:bm<n0) (hBxg:Bx≠g) (hbmg:bm≠g) (hnW:n0≤W.heap.size)
  (hO':w1.ownsRow n0 59 4 v' ((keep m.1 m.2 pre).length+1) ((keep m.1 m.2 pre).flatMap Fld.cs++Fld.cs ⟨x.1,x.2⟩)) (hg:W.grownBy w1 v.ownBlock):
  RcAt w1 g z m.1 m.2 v∧KeepsFrom n0 W (w1.setCell ⟨g,18,none⟩ v')∧Kp2 Bx bm W (w1.setCell ⟨g,18,none⟩ v')∧JI w n0 g b2 z m (pre++[x]) (w1.setCell ⟨g,18,none⟩ v'):=by
 have hG1:=hG.kept hg (hG.not_row hO);have hown:∀ j,v.ownBlock=some j→n0≤j:=fun j hj=>own_base hO hj;have hblk:∀ j,j<n0→j≠g→(w1.setCell ⟨g,18,none⟩ v').heap[j]?=W.heap[j]?:=fun j hj hne=>by
  rw[Below.heap_setCell _ _ _ j hne];exact hg.block j (by omega) (fun e=>by have:=hown j e.symm;omega)
 have hBw:=((hB.grown hg hB.size (fun j e=>Nat.le_trans hwn (hown j e))).setCell (p:=⟨g,18,none⟩) hwg v');refine⟨hG1,?_,⟨hblk Bx hBx hBxg,hblk bm hbm hbmg⟩,v',hG1.put v',?_,⟨hR.1,(hblk b2 hb2 hbg).trans hR.2⟩,hBw,Nat.le_trans hnW (Nat.le_trans hg.size (KeepsWalks.setCell w1 _ v').size)⟩
 ·refine ((KeepsOthers.of_grownBy hg fun j o ej hj=>?_).from n0).trans ((KeepsOthers.setCell _ _ _).from n0);exact Tta31
 ·have h1:keep m.1 m.2 (pre++[x])=keep m.1 m.2 pre++[⟨x.1,x.2⟩]:=by rw[keep_snoc,if_pos hlive]
  rw[h1,List.length_append,List.flatMap_append,List.flatMap_singleton];exact hO'.kept (grownBy_setCell18 w1 g 18 v') (.inr (hG1.not_row hO').symm)
theorem own_slice {W:World} {base k:Nat} {e:TypeId} {size:Nat} {v:Value} {xs:List Value} (h:W.ownsRow base e size v k xs):∃ A c,v=.slice A k c:=by
 rcases h.2 with ⟨rfl,rfl⟩ | ⟨g,cap,cur,rfl,_⟩
 ·exact⟨none,0,rfl⟩
 ·exact⟨_,cap,rfl⟩
theorem grownBy_setRow (W:World) (b:Nat) (cs:Array Value):W.grownBy (W.setRow b cs) (some b):=
 ⟨rfl,rfl,rfl,by simp,fun k _ hk=>setRow_other W b k _ (fun e=>hk (by rw[e]))⟩
theorem JI_end {w W:World} {n0 g b2 D:Nat} {z:List Int} {m:Int×Int} {pre:List (Int×Cel)} {A:Option Addr} {c:Nat} (hz:z.length=16)
  (hG:RcAt W g z m.1 m.2 (.slice A (keep m.1 m.2 pre).length c)) (hO:W.ownsRow n0 59 4 (.slice A (keep m.1 m.2 pre).length c) (keep m.1 m.2 pre).length ((keep m.1 m.2 pre).flatMap Fld.cs)) (hR:RcAt W b2 z16 0 0 (.slice none 0 0)) (hB:Below w.heap.size w W)
  (hwb:w.heap.size≤b2) (hb2:b2<n0) (hD:n0≤D) (hK:W.heap[D]?=some (.deferred (some []))):
  (W.setRow b2 (rcells z m.1 m.2 (.slice A (keep m.1 m.2 pre).length c))).heap[D]?=some (.deferred (some [])) ∧
  ∀ o,RcAt ((W.setRow b2 (rcells z m.1 m.2 (.slice A (keep m.1 m.2 pre).length c))).putObj D o) b2 z m.1 m.2 (.slice A (keep m.1 m.2 pre).length c) ∧
   FsAt ((W.setRow b2 (rcells z m.1 m.2 (.slice A (keep m.1 m.2 pre).length c))).putObj D o) A c (keep m.1 m.2 pre)∧Below w.heap.size w ((W.setRow b2 (rcells z m.1 m.2 (.slice A (keep m.1 m.2 pre).length c))).putObj D o):=by
 have h1:(W.setRow b2 (rcells z m.1 m.2 (.slice A (keep m.1 m.2 pre).length c))).heap[D]?=some (.deferred (some [])):=(setRow_other W b2 D _ (by omega)).trans hK;refine⟨h1,fun o=>⟨⟨hz,(World.putObj_heap_other (by omega)).trans (hR.putAll hz).2⟩,?_,?_⟩⟩
 ·have h2:=hO.kept (grownBy_setRow W b2 (rcells z m.1 m.2 (.slice A (keep m.1 m.2 pre).length c))) (.inr (hR.not_row hO).symm);exact FsAt.own (ownsRow_putObj h2 o h1 rfl)
 ·exact (below_setRow hB hwb _).trans (belowK_b (w:=w) Nl _ D _ _ (by omega) h1 rfl rfl)
end
section
open Go.RowKit Go.Shelf WM
attribute [local go_sem] Oper.semAt_some
theorem join_yes (z1:List Int) (n1 r1:Int) (A1:Option Addr) (l1 c1:Nat) (f1:List Fld) (z2:List Int) (n2 r2:Int) (A2:Option Addr) (l2 c2:Nat) (f2:List Fld) (w:World) (hlaid:Laid w)
  (hz1:z1.length=16) (hz2:z2.length=16) (hb1:AllBytes z1) (hb2:AllBytes z2) (hl1:f1.length=l1) (hl2:f2.length=l2) (h1:FsAt w A1 c1 f1) (h2:FsAt w A2 c2 f2) (hq:(z1 == z2)=true) (hm1:rmay n1 r1 f1=true) (hm2:rmay n2 r2 f2=true):
  Calls Tryz.prog 82 #[rv z1 n1 r1 (.slice A1 l1 c1),rv z2 n2 r2 (.slice A2 l2 c2)] w (JoinPost w (rjoin z1 n1 r1 f1 z2 n2 r2 f2)):=by
 have HV:Hid (∀ (A:Option Addr) (c:Nat) (w':World),FsAt w' A c (keep (jdead n1 r1 n2 r2).1 (jdead n1 r1 n2 r2).2 (riseL (gath (f1++f2)) 8))→Below w.heap.size w w' →
   JoinPost w (rjoin z1 n1 r1 f1 z2 n2 r2 f2) (.returned (.tuple #[rv z1 (jdead n1 r1 n2 r2).1 (jdead n1 r1 n2 r2).2 (.slice A (keep (jdead n1 r1 n2 r2).1 (jdead n1 r1 n2 r2).2 (riseL (gath (f1++f2)) 8)).length c),.bool true])) w'):=Yy (fun A c w' hf hb=>by
  rw[rjoin,if_pos (by rw[hq,hm1,hm2];rfl)];exact⟨A,c,rfl,hf,hb⟩)
 have hl8:l1≤8:=by rw[← hl1];exact rmay_len hm1
 have hl8':l2≤8:=by rw[← hl2];exact rmay_len hm2
 have HOK:Hid (∀ i,i<(f1++f2).length→(Lit.int .i64 ((f1++f2).getD i fld0).no).wf=true∧((f1++f2).getD i fld0).c.s.size≤300):=Yy (fun i hi=>by
  have hmem:(f1++f2).getD i fld0∈f1++f2:=by
   rw[List.getD,List.getElem?_eq_getElem hi];exact List.getElem_mem hi
  have hall:∀ f∈f1++f2,0≤f.no∧f.no<8∧cmay f.c=true:=fun f hf=>by
   rcases List.mem_append.1 hf with h | h
   ·exact⟨(rmay_all hm1 f h).1,(rmay_all hm1 f h).2.1,(rmay_all hm1 f h).2.2.1⟩
   ·exact⟨(rmay_all hm2 f h).1,(rmay_all hm2 f h).2.1,(rmay_all hm2 f h).2.2.1⟩
  obtain⟨g1,g2,g3⟩:=hall _ hmem;exact⟨wf_i64 (by omega) (by omega),Nat.le_trans (cmay_iff.1 g3).2.2 (by omega)⟩)
 have HLA:=Yy (fun (X:World) (hX:Below w.heap.size w X)=>hlaid.below hX Nl);have S0:=Yy (RcAt.new ((w.alloc (.cells (rcells z1 n1 r1 (.slice A1 l1 c1)) 36)).alloc (.cells (rcells z2 n2 r2 (.slice A2 l2 c2)) 36)) z16_len 0 0 (.slice none 0 0));rw[World.size_alloc,World.size_alloc]at S0;have S1:=Yy (((RcAt.new w hz1 n1 r1 (.slice A1 l1 c1)).old (.cells (rcells z2 n2 r2 (.slice A2 l2 c2)) 36)).old (.cells (rcells z16 0 0 (.slice none 0 0)) 36));have s2:=(RcAt.new (w.alloc (.cells (rcells z1 n1 r1 (.slice A1 l1 c1)) 36)) hz2 n2 r2 (.slice A2 l2 c2)).old (.cells (rcells z16 0 0 (.slice none 0 0)) 36);rw[World.size_alloc]at s2;have S2:=Yy s2;have HB:=Yy ((((Below.refl w.heap.size w).alloc Nl (.cells (rcells z1 n1 r1 (.slice A1 l1 c1)) 36)).alloc (by simp) (.cells (rcells z2 n2 r2 (.slice A2 l2 c2)) 36)).alloc (by simp;omega) (.cells (rcells z16 0 0 (.slice none 0 0)) 36));have L1:=Yy (load_id S1.out);have L2:=Yy (load_id S2.out);have M1:=Yy (load_rec S1.out);have HE:=eq_id hb1 hb2 hz1 hz2;have hz:=zeroRec;unfold rv at hz M1;have HZ:=Yy hz;have HM1:=Yy (rmay_any z1 n1 r1 A1 l1 c1 f1 _ hz1 hl1 (h1.below HB.out Nl));unfold rv MayPost at HM1;rw[hm1]at HM1;have HL1:=Yy hl1;have HL2:=Yy hl2;have H1:=Yy h1;have H2:=Yy h2;have HMX:=Yy (max_any (n1,r1) (n2,r2))
 change Hid (∀ w:World,Calls Tryz.prog 94 #[st n1 r1,st n2 r2] w fun e w'=>e=.returned (st (jdead n1 r1 n2 r2).1 (jdead n1 r1 n2 r2).2)∧Below w.heap.size w w') at HMX
 generalize jdead n1 r1 n2 r2=m at HV HMX;have HBD:=Yy (fun w9=>build_rec hz1 m.1 m.2 w9);have SZ:=Yy (size_rcells hz1 m.1 m.2 (.slice none 0 0));have SQ:=Yy (show (rcells z16 0 0 (.slice none 0 0)).size=(rcells z1 m.1 m.2 (.slice none 0 0)).size by rw[rcells_size z16_len,rcells_size hz1]);have SO:=Yy (rcells_one (z:=z1) (n:=m.1) (r:=m.2) (v:=(.slice none 0 0)) rfl);unfold st at HMX;unfold rv at HBD;rw[hq]at HE;clear s2 h1 h2 hl1 hl2 hlaid hq hm1 hb1 hb2
 conv=>congr;rfl;rfl;(unfold rv)
 generalize JoinPost w (rjoin z1 n1 r1 f1 z2 n2 r2 f2)=RR at HV;refine (callsIn_wide (n:=12)).1 ?_;refine callsIn_of_wp_marks Tryz.func82 rfl trivial ?_ rfl;simp only[Tryz.ntmps82,List.size_toArray,List.length_cons,List.length_nil,Nat.reduceAdd,Nat.reduceSub,Array.replicate_succ,Array.replicate_zero,List.push_toArray,List.append_toArray,List.nil_append,List.cons_append];refine wpIn_wide.2 ?_;go_wp2_with (first | ((with_reducible refine YyL 31 (.tmp 9) ⟨w.heap.size,0,none⟩ L1.out ?_ ?_ ?_);rfl;rfl) | ((with_reducible refine YyL 31 (.tmp 11) ⟨(w.heap.size+1),0,none⟩ L2.out ?_ ?_ ?_);rfl;rfl) | ((with_reducible refine YyL 36 (.tmp 2) ⟨w.heap.size,0,none⟩ M1.out ?_ ?_ ?_);rfl;rfl));refine HM1.out.mono ?_;rintro e w1 ⟨rfl,hb1⟩;have P1:=Yy (S1.out.below hb1 S1.out.lt);have P2:=Yy (S2.out.below hb1 S2.out.lt);have P0:=Yy (S0.out.below hb1 S0.out.lt);have BW1:=Yy (HB.out.trans (hb1.mono HB.out.size));clear hb1;have M2:=Yy (load_rec P2.out);unfold rv at M2;have HM2:=Yy (rmay_any z2 n2 r2 A2 l2 c2 f2 w1 hz2 HL2.out (H2.out.below BW1.out Nl));unfold rv MayPost at HM2;rw[hm2]at HM2;go_wp2_with (first | ((with_reducible refine YyL 36 (.tmp 3) ⟨(w.heap.size+1),0,none⟩ M2.out ?_ ?_ ?_);rfl;rfl));refine HM2.out.mono ?_;rintro e w2 ⟨rfl,hb2⟩;have Q1:=Yy (P1.out.below hb2 P1.out.lt);have Q2:=Yy (P2.out.below hb2 P2.out.lt);have Q0:=Yy (P0.out.below hb2 P0.out.lt);have BW2:=Yy (BW1.out.trans (hb2.mono BW1.out.size));clear hb2;go_wp2_with fail;refine wp_region_G w2 (by kernel_rfl) ?_
 refine YGa 0 (some 25) rfl ?_;refine YGd 1 (some 26) (.agg (bvals z1)) rfl (fun w9 hSw=>by exact exec_load_by 31 _ rfl ⟨w.heap.size,0,none⟩ rfl (load_id (Q1.out.below hSw Q1.out.lt))) ?_;refine YGa 2 (some 27) rfl ?_;refine YGd 3 (some 28) _ rfl (fun w9 hSw=>by have q9:=Q1.out.below hSw Q1.out.lt;have q0:=q9.c16;have q1:=q9.c17;go_simp;try with_reducible rfl) ?_;refine YGa 4 (some 29) rfl ?_;refine YGd 5 (some 30) _ rfl (fun w9 hSw=>by have q9:=Q2.out.below hSw Q2.out.lt;have q0:=q9.c16;have q1:=q9.c17;go_simp;try with_reducible rfl) ?_;refine YGk 6 (some 31) rfl HMX.out ?_;refine YGd 7 (some 32) (.agg (rcells z1 m.1 m.2 (.slice none 0 0))) rfl (fun w9 hSw=>by refine exec_build_by _ _ rfl #[(0,.agg (bvals z1)),(1,.agg #[.int .i64 m.1,.int .i64 m.2])] ?_ (HBD.out w9);simp only[List.map_toArray,List.map_cons,List.map_nil];rfl) ?_;refine wpG_alloc (i:=8) (oi:=⟨some 6,_,_,_,_,_⟩) (z:=rcells z16 0 0 (.slice none 0 0)) (t:=36) (by kernel_rfl) rfl ⟨by rfl,fun w9 hSw=>by have hz:=HZ.out;go_simp;try rfl⟩ ?_;intro g hg ng;simp only[Act.put,Z2,Z3,Z4];refine wpG_store (i:=9) (oi:=⟨none,_,_,_,_,_⟩) (v:=undef) [(g,rcells z1 m.1 m.2 (.slice none 0 0),36)] (by kernel_rfl) rfl ⟨by rfl,fun w9 hSw hO=>?_⟩ ?_;(focus (have q9:=hO _ (.head _);refine⟨_,Or.inr ⟨exec_store_row 36 _ _ rfl g (rcells z1 m.1 m.2 (.slice none 0 0)) rfl rfl 36 _ q9 SZ.out SQ.out SO.out,rfl⟩,below_setRow hSw hg _,?_⟩;intro x hx;obtain rfl:=List.mem_singleton.1 hx;exact setRow_heap w9 g _ _ _ _ q9));simp only[Act.put]
 refine wpG_done (by kernel_rfl) ?_ _;intro w9 hSw hO;have G9:RcAt w9 g z1 m.1 m.2 (.slice none 0 0):=⟨hz1,hO _ (.head _)⟩;have hB9:=BW2.out.trans (hSw.mono BW2.out.size);have hgw:w.heap.size≤g:=Nat.le_trans BW2.out.size hg;have R1:=Q1.out.below hSw Q1.out.lt;have R2:=Q2.out.below hSw Q2.out.lt;have R0:=Yy (Q0.out.below hSw Q0.out.lt);have s1:=R1.c18;have s2:=R2.c18;have BA:=(Below.refl w9.heap.size w9).alloc Nl ((.cells #[.slice A1 l1 c1,.slice A2 l2 c2] 34));have HBA:=Yy (hB9.trans (BA.mono hB9.size));have hA:=heap_alloc_new w9 ((.cells #[.slice A1 l1 c1,.slice A2 l2 c2] 34));have hA0:(w9.alloc ((.cells #[.slice A1 l1 c1,.slice A2 l2 c2] 34))).cell? ⟨w9.heap.size,0,none⟩=some (.slice A1 l1 c1):=by rw[cell_of_row _ _ _ _ _ _ hA];rfl
 have hA1:(w9.alloc ((.cells #[.slice A1 l1 c1,.slice A2 l2 c2] 34))).cell? ⟨w9.heap.size,1,none⟩=some (.slice A2 l2 c2):=by rw[cell_of_row _ _ _ _ _ _ hA];rfl
 have HCC:=Yy (concat_any w9.heap.size A1 A2 l1 l2 c1 c2 f1 f2 _ (by rw[World.size_alloc];omega) hA0 hA1 HL1.out HL2.out (H1.out.below HBA.out Nl) (H2.out.below HBA.out Nl) (by omega));unfold ConcatPost at HCC;have GA:=Yy (G9.below BA G9.lt);have RA:=Yy (R0.out.below BA R0.out.lt);clear hSw hO G9 hB9 R1 R2 R0 BA hA hA0 hA1;go_wp2_with fail;refine HCC.out.mono ?_;rintro e w10 ⟨A,k,c,rfl,hk,hF,hb⟩;have B10:=Yy (HBA.out.trans (hb.mono HBA.out.size));have G10:=Yy (GA.out.below hb GA.out.lt);have R10:=Yy (RA.out.below hb RA.out.lt);have HGA:=Yy (gather_any A k c (f1++f2) w10 (HLA.out _ B10.out) hk (by rw[← hk,List.length_append,HL1.out,HL2.out];omega) hF (fun i hi=>HOK.out i (by rw[hk];exact hi)));unfold GatherPost at HGA;clear hb hF s1 s2;go_wp2_with fail;refine HGA.out.mono ?_;rintro e w11 ⟨bm,N,rfl,hbm,hM,hb⟩;have hsz10:=hb.size;have B11:=B10.out.trans (hb.mono B10.out.size);have G11:=G10.out.below hb G10.out.lt;have R11:=R10.out.below hb R10.out.lt;have hbm1:=hM.lt;clear hb;go_wp2_with fail;refine (rising_any bm w11).mono ?_;rintro e w12 ⟨rfl,hw12⟩;have hb:=(Below.refl w11.heap.size w11).alloc Nl (.cells #[.map (some bm)] 142);rw[← hw12]at hb;have hsz:w12.heap.size=w11.heap.size+1:=by rw[hw12,World.size_alloc]
 have hBX:BoxM w12 w11.heap.size bm:=by rw[hw12];exact heap_alloc_new w11 _
 have hM12:=hM.below hb hbm1;have B12:=B11.trans (hb.mono B11.size);have G12:=G11.below hb G11.lt;have R12:=R11.below hb R11.lt;have hgl:=G10.out.lt;have hq0:=Q0.out.lt;have hwl:=B11.size;clear hb hw12 B11 G11 R11 hM;go_wp2_with fail;refine (wpIn_wide (n:=12)).1 ?_;refine wpIn_rangeFunc_ownH (F:=Fence.wide) (n:=12) rfl (by omega) (gf:=125) (lb:=#[.pointer (some ⟨w11.heap.size,0,none⟩)]) rfl trivial (enters_of Tryz.func125 (by kernel_rfl) rfl)
  (rise_stops 11 (by omega) w11.heap.size bm N (gath (f1++f2)) w12 hBX hM12)
  (fun h k=>⟨k.1.trans h.1,k.2.trans h.2⟩)
  (fun W l o o' hl h _ _=>⟨World.putObj_heap_other (by omega),World.putObj_heap_other (by omega)⟩)
  (Below.refl _ _) (fun _=>rfl)
  (JI w w12.heap.size g (w.heap.size+1+1) z1 m)
  (fun _ _ _=>False)
  (JI_own B12.size)
  (fun _ _ _ _ _ hs _ _=>hs)
  ⟨.slice none 0 0,G12,World.ownsRow_nil _ _ _ _,R12,B12,Nat.le_refl _⟩
  (fun x a' W=>∃ Bc,w12.heap.size≤Bc∧ClAt W Bc x.2∧a' = { tmps:=(Value.agg (rcells z1 n1 r1 (.slice A1 l1 c1))::Value.agg (rcells z2 n2 r2 (.slice A2 l2 c2))::Value.pointer (some ⟨w.heap.size,0,none⟩)::Value.pointer (some ⟨w.heap.size+1,0,none⟩)::Value.pointer (some ⟨w.heap.size+1+1,0,none⟩)::Value.bool false::Value.pointer (some ⟨g,0,none⟩)::Value.int .i64 x.1::Value.pointer (some ⟨Bc,0,none⟩)::Value.pointer (some ⟨w.heap.size,0,none⟩)::Value.agg (bvals z1)::Value.pointer (some ⟨w.heap.size+1,0,none⟩)::Value.agg (bvals z2)::Value.bool false::Value.bool false::Value.agg (rcells z1 n1 r1 (.slice A1 l1 c1))::Value.bool true::Value.bool false::Value.bool false::Value.bool false::Value.agg (rcells z2 n2 r2 (.slice A2 l2 c2))::Value.bool true::Value.bool false::Value.bool false::undef::Value.pointer (some ⟨w.heap.size,0,none⟩)::Value.agg (bvals z1)::Value.pointer (some ⟨w.heap.size,16,none⟩)::Value.agg #[.int .i64 n1,.int .i64 r1]::Value.pointer (some ⟨w.heap.size+1,16,none⟩)::Value.agg #[.int .i64 n2,.int .i64 r2]::Value.agg #[.int .i64 m.1,.int .i64 m.2]::Value.agg (rcells z1 m.1 m.2 (.slice none 0 0))::Value.pointer (some ⟨w.heap.size,18,none⟩)::Value.slice A1 l1 c1::Value.pointer (some ⟨w.heap.size+1,18,none⟩)::Value.slice A2 l2 c2::Value.slice (some ⟨w9.heap.size,0,none⟩) 2 2::Value.slice A k c::Value.map (some bm)::Value.func (Fn.func 125) #[] #[Value.pointer (some ⟨w11.heap.size,0,none⟩)]::Value.int .i64 x.1::Value.agg #[.int .i64 x.2.n,.int .i64 x.2.r,.string x.2.s]::undef::undef::undef::undef::undef::undef::undef::undef::undef::undef::undef::undef::undef::[]).toArray,defers:=[]})
  (fun x a' _ X Y row hs hg hr=>by
   obtain⟨Bc,h1,h2,h3⟩:=hs;refine⟨Bc,h1,(hg.block Bc h2.lt (fun e=>?_)).trans h2,h3⟩;obtain⟨o,ho,hc⟩:=(hr Bc e.symm).2;unfold ClAt at h2;rw[h2]at ho;cases ho;cases hc)
  ?assign ?body ?done ?stop
 case assign=>
  rintro l pre x W K hI hK;have hn:=ClAt.new W x.2;have hI2:=(JI_own (w:=w) (n0:=w12.heap.size) (g:=g) (b2:=w.heap.size+1+1) (z:=z1) (m:=m) (B:=w12.heap.size) B12.size).alloc (.cells #[.int .i64 x.2.n,.int .i64 x.2.r,.string x.2.s] 38) hI;have hb2:=(Below.refl W.heap.size W).alloc Nl (.cells #[.int .i64 x.2.n,.int .i64 x.2.r,.string x.2.s] 38);have hnW:w12.heap.size≤W.heap.size:=by obtain⟨v,_,_,_,_,h⟩:=hI;exact h
  have hK2:=hK _ _ ((KeepsOthers.alloc W (.cells #[.int .i64 x.2.n,.int .i64 x.2.r,.string x.2.s] 38)).from _) ⟨hb2.block _ (by omega),hb2.block _ (by omega)⟩ hI2 ⟨_,hnW,hn,rfl⟩;clear hK hn hI hI2 hb2;unfold encC Cel.v;gi_wp2;exact hK2
 case body=>
  rintro l pre x a' W hl hr ⟨v,hG,hO,hR,hB,hn⟩ ⟨Bc,hBc,hC,rfl⟩ hlt;have g16:=hG.c16;have g17:=hG.c17;have k0:=hC.c0;have k1:=hC.c1;have k2:=hC.c2;have HLV:=Yy (lives_any m.1 m.2 x.2 W);unfold st Cel.v at HLV;have HG:=Yy hG;have HO:=Yy hO;have HR:=Yy hR;have HBB:=Yy hB;have HCC:=Yy hC;clear hG hO hR hB hC;cases hv:stLess m.1 m.2 x.2.n x.2.r
  ·rw[hv]at HLV;have HJ:=Yy ((show JI w w12.heap.size g (w.heap.size+1+1) z1 m pre W from⟨v,HG.out,HO.out,HR.out,HBB.out,hn⟩).dead (x:=x) hv);clear hv
   gi_wp2_with fail
   refine⟨trivial,(CallsIn.inRound l (callsIn_wide.2 HLV.out)).mono ?_⟩;rintro e w' ⟨rfl,hb⟩;have FIN:=Yy (show KeepsFrom w12.heap.size W w'∧Kp2 w11.heap.size bm W w'∧JI w w12.heap.size g (w.heap.size+1+1) z1 m (pre++[x]) w' from⟨KeepsFrom.of_below hb,⟨hb.block _ (by omega),hb.block _ (by omega)⟩,HJ.out.below hb⟩);clear hb;gi_wp2;exact FIN.out
  ·rw[hv]at HLV;have HV1:=Yy hv;have hkl:=keep_len m.1 m.2 pre;clear hv
   gi_wp2_with fail
   refine⟨trivial,(CallsIn.inRound l (callsIn_wide.2 HLV.out)).mono ?_⟩;rintro e w' ⟨rfl,hb⟩;have hG:=HG.out.below hb HG.out.lt;have h18:=hG.c18;have hC:=HCC.out.below hb HCC.out.lt;have k0:=hC.c0;have k1:=hC.c1;have k2:=hC.c2;have hnw:=Nat.le_trans hn hb.size;have hB':=HBB.out.trans (hb.mono HBB.out.size);have HGA:=Yy (hG.old (.cells #[.int .i64 x.1,.int .i64 x.2.n,.int .i64 x.2.r,.string x.2.s] 59));have HOA:=Yy ((own_below HO.out hb).alloc (.cells #[.int .i64 x.1,.int .i64 x.2.n,.int .i64 x.2.r,.string x.2.s] 59));have HRA:=Yy ((HR.out.below hb HR.out.lt).old (.cells #[.int .i64 x.1,.int .i64 x.2.n,.int .i64 x.2.r,.string x.2.s] 59));have HBA:=Yy (hB'.alloc hB'.size (.cells #[.int .i64 x.1,.int .i64 x.2.n,.int .i64 x.2.r,.string x.2.s] 59));have HKA:Hid (KeepsFrom w12.heap.size W (w'.alloc (.cells #[.int .i64 x.1,.int .i64 x.2.n,.int .i64 x.2.r,.string x.2.s] 59))∧Kp2 w11.heap.size bm W (w'.alloc (.cells #[.int .i64 x.1,.int .i64 x.2.n,.int .i64 x.2.r,.string x.2.s] 59))):=Yy
    ⟨(KeepsFrom.of_below hb).trans ((KeepsOthers.alloc _ _).from _),(((Below.refl w'.heap.size w').alloc Nl _).block _ (by omega)).trans (hb.block _ (by omega)),(((Below.refl w'.heap.size w').alloc Nl _).block _ (by omega)).trans (hb.block _ (by omega))⟩
   have HCELL:=Yy (fld_cell w' ⟨x.1,x.2⟩ 59);have HONE:=Yy (flds_one [⟨x.1,x.2⟩]);rw[List.flatMap_singleton]at HONE;dsimp only at HCELL;obtain⟨i0,hi,hz0,hz1',hz2'⟩:=info_parts infoFld;clear hb hG hC hB' g16 g17
   gi_wp2_with (gi_at_builtin;refine wpListIn_append_own _ rfl _ _ 34 rfl w12.heap.size 59 i0 zfld 4 40 Tryz.underlying34 hi hz0 hz1' hz2' rfl (by decide) _ (keep m.1 m.2 pre).length _ rfl HOA.out ⟨w'.heap.size,0,none⟩ 1 1 (Fld.cs ⟨x.1,x.2⟩) rfl rfl HCELL.out HONE.out (by simp only[maxLen];omega) (by omega) (by rw[World.size_alloc];omega) ?_;intro v' w1 hown' hgrow _;obtain⟨g',cap',rfl⟩:=ownsRow_succ hown';obtain⟨q1,q2,q3,q4⟩:=JI_step (w:=w) (b2:=w.heap.size+1+1) (Bx:=w11.heap.size) (bm:=bm) HV1.out HGA.out HOA.out HRA.out HBA.out (by omega) hgw (by omega) (by omega) (by omega) (by omega) (by omega) (by omega) (by rw[World.size_alloc];omega) hown' hgrow;have r18:=q1.c18;have f18:=q1.fz 18;have Q2X:=Yy q2;have Q3X:=Yy q3;have Q4X:=Yy q4;clear q1 q2 q3 q4 hown' hgrow)
   exact⟨HKA.out.1.trans Q2X.out,⟨Q3X.out.1.trans HKA.out.2.1,Q3X.out.2.trans HKA.out.2.2⟩,Q4X.out⟩
 case done=>
  rintro D xs W hD rfl ⟨v,hG,hO,hR,hB,hn⟩ hK;obtain⟨A,c,rfl⟩:=own_slice hO;obtain⟨p1,p2⟩:=JI_end hz1 hG hO hR hB (by omega) (by omega) hD hK;have LG:=Yy (load_rec hG);have SZ:=Yy (size_rcells hz1 m.1 m.2 (.slice A (keep m.1 m.2 (riseL (gath (f1++f2)) 8)).length c));have SO:=Yy (rcells_one (z:=z1) (n:=m.1) (r:=m.2) (v:=(.slice A (keep m.1 m.2 (riseL (gath (f1++f2)) 8)).length c)) rfl);have SQ:=Yy (show (rcells z16 0 0 (.slice none 0 0)).size=(rcells z1 m.1 m.2 (.slice A (keep m.1 m.2 (riseL (gath (f1++f2)) 8)).length c)).size by rw[rcells_size z16_len,rcells_size hz1]);unfold rv at LG;have P1:=Yy p1;have P2:=Yy (p2 (.deferred none));have HR:=Yy hR;have HVV:=Yy (HV.out A c _ P2.out.2.1 P2.out.2.2);clear p1 p2 hG hO hR hB hK;generalize (keep m.1 m.2 (riseL (gath (f1++f2)) 8)).length=K at *;go_wp2_with (first | ((with_reducible refine YyL 36 (.tmp 6) ⟨g,0,none⟩ LG.out ?_ ?_ ?_);rfl;rfl) | ((with_reducible refine wpList_store_row (o:=⟨none,.store 36 (.tmp 4) (.tmp 55),_,_,_,_⟩) ?_ 36 (.tmp 4) (.tmp 55) ?_ (w.heap.size+1+1) (rcells z1 m.1 m.2 (.slice A K c)) ?_ ?_ 36 _ HR.out.hp SZ.out SQ.out SO.out ?_);rfl;rfl;rfl;rfl));refine⟨by simp,.inl ⟨_,_,rfl,run_takeDeferred P1.out,?_⟩⟩;exact⟨_,res_rc2 Tryz.results82 rfl P2.out.1,HVV.out⟩
 case stop=>
  rintro D c pre W _ _ h _;exact h.elim
noncomputable def Rc.join (a b:Rc):Option Rc:=rjoin a.z a.n a.r a.fs b.z b.n b.r b.fs
theorem join_any (a b:Rc) (A B:Option Addr) (c d:Nat) (w:World) (hlaid:Laid w) (ha:a.Ok) (hb:b.Ok) (h1:FsAt w A c a.fs) (h2:FsAt w B d b.fs):
  Calls Tryz.prog 82 #[a.v A c,b.v B d] w (JoinPost w (a.join b)):=by
 unfold Rc.v Rc.join;by_cases h:((a.z == b.z) && rmay a.n a.r a.fs && rmay b.n b.r b.fs)=true
 ·simp only[Bool.and_eq_true]at h;exact join_yes a.z a.n a.r A _ c a.fs b.z b.n b.r B _ d b.fs w hlaid ha.1 hb.1 ha.2 hb.2 rfl rfl h1 h2 h.1.1 h.1.2 h.2
 ·exact join_no a.z a.n a.r A _ c a.fs b.z b.n b.r B _ d b.fs w ha.1 hb.1 ha.2 hb.2 rfl rfl h1 h2 (by simpa using h)
end
section
open Go.RowKit WM
theorem putR (w:World) (c c':Array Value):(w.alloc (.cells c 36)).setRow w.heap.size c'=w.alloc (.cells c' 36):=World.setRow_alloc_new w _ _ _
noncomputable def Rc.same (a b:Rc):Bool:=rsame a.z a.n a.r a.fs b.z b.n b.r b.fs
theorem Rc.same_iff {a b:Rc}:a.same b=true↔a=b:=by
 obtain⟨z1,n1,r1,f1⟩:=a;obtain⟨z2,n2,r2,f2⟩:=b;simp only[Rc.same,rsame,Bool.and_eq_true,beq_iff_eq,decide_eq_true_eq,Rc.mk.injEq]
 constructor
 ·rintro⟨⟨h1,h2,h3⟩,h4⟩;exact⟨h1,h2,h3,h4⟩
 ·rintro⟨h1,h2,h3,h4⟩;exact⟨⟨h1,h2,h3⟩,h4⟩
theorem Rc.join_ok {a b j:Rc} (ha:a.Ok) (h:a.join b=some j):j.Ok:=by
 unfold Rc.join rjoin at h
 split at h
 ·cases h;exact ha
 ·cases h
theorem rc0_ok:rc0.Ok:=⟨z16_len,z16_bytes⟩
theorem Rc.getD_ok {a b:Rc} (ha:a.Ok):((a.join b).getD rc0).Ok:=by
 cases h:a.join b with
 | none=>exact rc0_ok
 | some j=>exact Rc.join_ok ha h
theorem may_any' (a:Rc) (A:Option Addr) (c:Nat) (w:World) (ha:a.Ok) (h:FsAt w A c a.fs):Calls Tryz.prog 58 #[a.v A c] w fun e w'=>e=.returned (.bool a.may)∧Below w.heap.size w w':=
 rmay_any a.z a.n a.r A a.fs.length c a.fs w ha.1 rfl h
theorem same_any' (a b:Rc) (A B:Option Addr) (c d:Nat) (w:World) (ha:a.Ok) (hb:b.Ok) (h1:FsAt w A c a.fs) (h2:FsAt w B d b.fs):Calls Tryz.prog 56 #[a.v A c,b.v B d] w fun e w'=>e=.returned (.bool (a.same b))∧Below w.heap.size w w':=
 rsame_any a.z a.n a.r A _ c a.fs b.z b.n b.r B _ d b.fs w ha.1 hb.1 ha.2 hb.2 rfl rfl h1 h2
def fewR (fs:List Fld):Bool:=decide (fs.length≤12) && fs.all fun f=>decide (f.c.s.size≤300)
theorem few_drop {fs:List Fld} {k:Nat} (hk:k<fs.length):((fs.drop k).all fun f=>decide (f.c.s.size≤300))=(decide ((fs.getD k fld0).c.s.size≤300) && (fs.drop (k+1)).all fun f=>decide (f.c.s.size≤300)):=by
 rw[List.drop_eq_getElem_cons hk,List.all_cons];simp only[List.getD,List.getElem?_eq_getElem hk,Option.getD_some]
theorem Tta50 {p:Prop} (h:p:=by
  have HF:=Yy hf;have HBB:=Yy hb;clear hf hb hs;go_wp2;go_ret;exact⟨by rw[HF.out];rfl,HBB.out⟩
 ):p:=h
theorem fewR_any (a:Rc) (A:Option Addr) (c:Nat) (w:World) (ha:a.Ok) (h:FsAt w A c a.fs):
  Calls Tryz.prog 12 #[a.v A c] w fun e w'=>e=.returned (.bool (fewR a.fs))∧Below w.heap.size w w':=by
 obtain⟨hc1,hc2,hc3,hcell⟩:=h;simp only[maxLen]at hc2;have HC:=Yy hcell;have S0:=Yy (RcAt.new w ha.1 a.n a.r (.slice A a.fs.length c));have HB:=Yy ((Below.refl w.heap.size w).alloc Nl (.cells (rcells a.z a.n a.r (.slice A a.fs.length c)) 36));have s0:=S0.out.c18;have HV:Hid (fewR a.fs=(decide (a.fs.length≤12) && (a.fs.drop 0).all fun f=>decide (f.c.s.size≤300))):=Yy rfl
 conv=>congr;rfl;rfl;(unfold Rc.v rv)
 clear hcell ha;generalize fewR a.fs=V at HV ⊢;generalize hlen:a.fs.length=len at *;have HL:=Yy hlen;clear hlen;by_cases h12:len≤12
 ·have hV2:=HV.out;rw[decide_eq_true h12,Bool.true_and]at hV2;have HV2:=Yy hV2;have t1:¬ 12<(len:Int):=by omega
  clear hV2;go_enter Tryz.func12,Tryz.ntmps12;go_wp2;clear s0;go_loopw [3] (fun i wr=>∃ k:Nat,k≤len∧i=.int .i64 k∧RcAt wr w.heap.size a.z a.n a.r (.slice A len c)∧Below w.heap.size w wr∧V=(a.fs.drop k).all fun f=>decide (f.c.s.size≤300)) (fun i _=>len - (intOf i).toNat)
  case atStart=>exact⟨0,Nat.zero_le _,rfl,S0.out,HB.out,HV2.out⟩
  case round=>
   obtain⟨k,hk,rfl,hs,hb,hf⟩:=hrel;have d18:=hs.c18;by_cases hlt:k<len
   ·obtain⟨b,off,rfl,hbB,hcc⟩:=HC.out (by omega);obtain⟨_,_,_,c3⟩:=hcc k hlt;have c3:=(hb.cell (p:=⟨b,off+k*4+3,none⟩) hbB).trans c3;have IX:=ix_fld b off len c k hlt k rfl;rw[few_drop (by rw[HL.out];exact hlt)]at hf;generalize a.fs.getD k fld0=f at c3 hf;generalize off+k*4=o at c3 IX;have HS:=Yy hs;have HBB:=Yy hb;clear hcc hs hb;by_cases h3:f.c.s.size≤300
    ·rw[decide_eq_true h3,Bool.true_and]at hf;have HF:=Yy hf;have t2:¬ 300<(f.c.s.size:Int):=by omega
     clear hf;go_wp2;go_roundw
     case rel=>exact⟨k+1,by omega,by go_num,HS.out,HBB.out,HF.out⟩
     case measure=>simp[intOf];omega
    ·rw[decide_eq_false h3,Bool.false_and]at hf;have HF:=Yy hf;have t2:300<(f.c.s.size:Int):=by omega
     clear hf;go_wp2;go_ret;exact⟨by rw[HF.out];rfl,HBB.out⟩
   ·obtain rfl:k=len:=by omega
    rw[List.drop_eq_nil_of_le (by rw[HL.out];exact Nat.le_refl _)]at hf;exact Tta50
 ·have hV2:=HV.out;rw[decide_eq_false h12,Bool.false_and]at hV2;have HV2:=Yy hV2;have t1:12<(len:Int):=by omega
  clear hV2;go_enter Tryz.func12,Tryz.ntmps12;go_wp2;go_ret;exact⟨by rw[HV2.out];rfl,HB.out⟩
end
end
end Go.Proofs.YtnlhkpmgbpfjmaaGreatDoor
