import Derived.Test.YtnlhkpmgbpfjmaaGreatDoorQd14
import Derived.Test.YtnlhkpmgbpfjmaaGreatDoorQd26
/- What functions answer, part 27. -/
namespace Go.Proofs.YtnlhkpmgbpfjmaaGreatDoor
set_option linter.unusedVariables false
set_option linter.unusedSimpArgs false
set_option maxHeartbeats 16000000
set_option maxRecDepth 100000
section
section
open Go.RowKit Go.Shelf WM
def ROwnPost (w:World) (R:Rc) (e:Ending) (w':World):Prop:=∃ (A:Option Addr) (c:Nat),e=.returned (.agg (RcA.cells ⟨R,A,c⟩))∧RvAt w' ⟨R,A,c⟩∧FTag w' A∧Below w.heap.size w w'
theorem rown_any (x:RcA) (w:World) (h:RvAt w x) (hs:x.R.fs.length≤1000):Calls Tryz.prog 95 #[.agg x.cells] w (ROwnPost w x.R):=by
 have ZX:=Yy h.len;have S0:=Yy ((XAt.new w h.len).old (.cells rcA0.cells 36));have s1:=XAt.new (x:=rcA0) (w.alloc (.cells x.cells 36)) z16_len;rw[World.size_alloc]at s1;have S1:=Yy s1;have HB:=Yy (((Below.refl w.heap.size w).alloc Nl (.cells x.cells 36)).alloc (by simp) (.cells rcA0.cells 36));have s0:=S0.out.c18;have f0:=S0.out.fz 18;have HF:=Yy (h.2.below HB.out Nl);have HOK:=Yy h.1;have HS:=Yy (show 0+x.R.fs.length≤100000 by omega);have HSZ:=Yy HB.out.size;have hz:=zeroX;obtain⟨i0,hi,hz0,hz1,hz2⟩:=info_parts infoFld;clear s1 h hs;go_enter Tryz.func95,Tryz.ntmps95
 go_wp2_with (first | (at_builtin;refine wpList_append_fld _ rfl _ _ 34 rfl w.heap.size 59 i0 Tryz.underlying34 hi hz0 hz1 hz2 _ 0 [] rfl (World.ownsRow_nil _ _ _ _) x.A x.R.fs.length x.c x.R.fs rfl HF.out rfl HS.out HSZ.out ?_;intro v1 w1 ho1 hg1;obtain⟨A1,c1,rfl⟩:=own_slice ho1;rw[Nat.zero_add,List.nil_append]at ho1;have HO1:=Yy ho1;have B1:=Yy ((Below.refl _ _).grown hg1 Nl (fun g hg=>by cases hg));have T0:=Yy (S0.out.below B1.out S0.out.lt);have T1:=Yy (S1.out.below B1.out S1.out.lt);have HB1:=Yy (HB.out.trans (B1.out.mono HB.out.size));have s0:=T0.out.c18;have f0:=T0.out.fz 18;have TL:=Yy (T0.out.put A1 c1).load;have T3:=Yy (show XAt (w1.setCell ⟨w.heap.size,18,none⟩ (.slice A1 x.R.fs.length c1)) (w.heap.size+1) rcA0 from T1.out.same (Below.heap_setCell _ _ _ _ (show w.heap.size+1≠w.heap.size by omega)));have HB2:=Yy (HB1.out.setCell (p:=⟨w.heap.size,18,none⟩) Nl (.slice A1 x.R.fs.length c1));clear ho1 hg1) | ((with_reducible refine YyL 36 (.tmp 1) ⟨w.heap.size,0,none⟩ TL.out ?_ ?_ ?_);rfl;rfl) | ((with_reducible refine wpList_store_oldx (o:=⟨none,.store 36 (.tmp 2) (.tmp 7),_,_,_,_⟩) ?_ (.tmp 2) (.tmp 7) ?_ (w.heap.size+1) _ T3.out ?_ (⟨x.R,A1,c1⟩:RcA) ?_ ZX.out ?_);rfl;rfl;rfl;rfl;intro w2 hg2 hx2;have G2:=Yy hg2;have X2:=Yy hx2;clear hg2 hx2));have HR:=Yy (show RvAt w1 (⟨x.R,A1,c1⟩:RcA) from⟨HOK.out,FsAt.own HO1.out⟩);have HT:=Yy (FTag.own HO1.out);have G0:Hid (∀ g,some w.heap.size=some g→∀ c,w1.heap[g]?≠some (.cells c 59)):=Yy (fun g e=>by
  obtain rfl:=Option.some.inj e;exact tag_ne T0.out.2 (by decide))
 have GG:=Yy (grownBy_setCell18 w1 w.heap.size 18 (.slice A1 x.R.fs.length c1));have G1:∀ g,some (w.heap.size+1)=some g→∀ c,(w1.setCell ⟨w.heap.size,18,none⟩ (.slice A1 x.R.fs.length c1)).heap[g]?≠some (.cells c 59):=fun g e=>by
  obtain rfl:=Option.some.inj e;exact tag_ne T3.out.2 (by decide)
 have hT2:=HT.out.kept GG.out G0.out;refine bodyPost_ret (v:=.agg (⟨x.R,A1,c1⟩:RcA).cells) ?_ rfl ?_
 ·exact res_x Tryz.results95 rfl X2.out
 ·exact⟨A1,c1,rfl,(HR.out.kept_tag HT.out GG.out G0.out).kept_tag hT2 G2.out G1,hT2.kept G2.out G1,HB2.out.grown G2.out HB2.out.size (fun k e=>by have:=Option.some.inj e;omega)⟩
noncomputable def rpL (r:Rc):Bool→List Rc→List Rc
 | dn,[]=>if dn=true then [] else [r]
 | dn,x::xs=>(if (lessL r.z x.z && !dn)=true then [r] else [])++((if x.z=r.z then (x.join r).getD rc0 else x)::rpL r (dn || lessL r.z x.z || decide (x.z=r.z)) xs)
theorem rpL_step (r:Rc) (dn:Bool) {xs:List RcA} {k:Nat} (hk:k<xs.length):rpL r dn ((xs.drop k).map (·.R)) =
  (if (lessL r.z (xs.getD k rcA0).R.z && !dn)=true then [r] else [])++((if (xs.getD k rcA0).R.z=r.z then ((xs.getD k rcA0).R.join r).getD rc0 else (xs.getD k rcA0).R)::rpL r (dn || lessL r.z (xs.getD k rcA0).R.z || decide ((xs.getD k rcA0).R.z=r.z)) ((xs.drop (k+1)).map (·.R))):=by
 rw[List.drop_eq_getElem_cons hk,List.map_cons,rpL];simp only[List.getD,List.getElem?_eq_getElem hk,Option.getD_some]
theorem rpL_done {r:Rc}:∀ {bs:List Rc},(∀ y∈bs,lessL r.z y.z=true)→rpL r true bs=bs
 | [],_=>rfl
 | x::xs,h=>by
  have hx:=h x List.mem_cons_self;have hne:¬ x.z=r.z:=fun e=>il_ne hx e.symm;rw[rpL,if_neg hne,Bool.true_or,Bool.true_or,rpL_done fun y hy=>h y (List.mem_cons_of_mem _ hy)];simp
theorem rpL_bput {r:Rc} (hr:r.may=true):∀ {bs:List Rc},Rise bs→AllMay bs→rpL r false bs=bput bs r
 | [],_,_=>rfl
 | x::xs,h,hm=>by
  obtain⟨h1,h2⟩:=List.pairwise_cons.1 h;have hm2:AllMay xs:=fun y hy=>hm y (List.mem_cons_of_mem _ hy);rw[rpL,bput];by_cases hz:x.z=r.z
  ·rw[if_pos hz,if_pos hz,join_eq (hm x List.mem_cons_self) hr hz];have hl:lessL r.z x.z=false:=by rw[hz];exact il_irr _
   have hd:decide (x.z=r.z)=true:=by simp[hz]
   rw[hl,hd,show (false || false || true)=true from rfl,rpL_done (fun y hy=>by rw[← hz];exact h1 y hy)]
   rfl
  ·rw[if_neg hz,if_neg hz];have hd:decide (x.z=r.z)=false:=by simp[hz]
   rw[hd];cases hl:lessL r.z x.z
   ·rw[show (false || false || false)=false from rfl,rpL_bput hr h2 hm2]
    rfl
   ·rw[show (false || true || false)=true from rfl,rpL_done (fun y hy=>il_trans hl (h1 y hy))]
    rfl
section
variable {ops:Array Oper} {o:Oper} {a:Act} {K:Act→World→Prop} {Q:Exit→Act→World→Prop} {E:Prop}
theorem step_bslice {X:World} (hgd:o.guard=none) (y:Operand) (hop:o.op=.buildSlice 22 1 #[(0,y)]) (x:RcA) (hy:a.eval y=.agg x.cells) (hz:x.R.z.length=16)
  (h:K (a.put o.dst (.slice (some ⟨X.heap.size,0,none⟩) 1 1)) (X.alloc (.cells x.cells 36))):
  if Region.wanted o (yielded ops a.tmps)=true then Oper.wp Tryz.prog o a X K Q else E:=by
 have hw:Region.wanted o (yielded ops a.tmps)=true:=by simp[Region.wanted,hgd]
 rw[if_pos hw];unfold Oper.wp execOp;simp only[hop,List.map_toArray,List.map_cons,List.map_nil,hy,Sem.run_bind,run_bslice hz,Result.andThen_ok,Sem.run_pure];exact h
theorem step_append_rec {X:World} (hgd:o.guard=none) (s x:Operand)
  (ho:o.op=.call { callee:=.builtin .append,args:=#[s,x],argTypes:=#[22,22]})
  (base:Nat) (v:Value) (L:List RcA) (y:RcA) (hs:a.eval s=v) (hown:(X.alloc (.cells y.cells 36)).ownsRow base 36 19 v L.length (L.flatMap RcA.cs)) (hL:L.length≤90000) (hz:y.R.z.length=16)
  (hx:a.eval x=.slice (some ⟨X.heap.size,0,none⟩) 1 1) (hbase:base≤(X.alloc (.cells y.cells 36)).heap.size)
  (h:∀ v' w',w'.ownsRow base 36 19 v' (L.length+1) ((L++[y]).flatMap RcA.cs)→(X.alloc (.cells y.cells 36)).grownBy w' v.ownBlock→K (a.put o.dst v') w'):
  if Region.wanted o (yielded ops a.tmps)=true then Oper.wp Tryz.prog o a (X.alloc (.cells y.cells 36)) K Q else E:=by
 have hw:Region.wanted o (yielded ops a.tmps)=true:=by simp[Region.wanted,hgd]
 rw[if_pos hw];obtain⟨i0,hi,hz0,hz1,hz2⟩:=info_parts infoRec;refine wp_append_own _ s x 22 ho base 36 i0 zrc 19 56 Tryz.underlying22 hi hz0 hz1 hz2 zrc_size (by omega) v L.length _ hs hown ⟨X.heap.size,0,none⟩ 1 1 y.cs hx (by rw[cs_len hz]) (fun j u hu=>by
  rw[Addr.add_lit,cell_of_row _ _ _ _ _ _ (heap_alloc_new X _),Nat.zero_add];rw[RcA.cs,Array.getElem?_toList]at hu;exact hu) (cs_one y) (by simp only[maxLen];omega) (by omega) hbase ?_
 intro v' w' h1 h2 _;refine h v' w' ?_ h2;rw[List.flatMap_append,List.flatMap_singleton];exact h1
end
def SP (w:World) (d:Bk) (x:RcA) (W:World):Prop:=Below w.heap.size w W∧BoAt W w.heap.size (.slice d.A d.xs.length d.c)∧XAt W (w.heap.size+1) x
def PJ (w:World) (d:Bk) (x:RcA) (v:Value) (acc:List RcA) (W:World):Prop:=
 SP w d x W∧BoAt W (w.heap.size+1+1) (.slice none 0 0)∧BoAt W (w.heap.size+1+1+1) v∧W.ownsRow (w.heap.size+1+1+1+1) 36 19 v acc.length (acc.flatMap RcA.cs)∧(∀ y∈acc,RvAt W y∧FTag W y.A)∧w.heap.size+1+1+1+1≤W.heap.size
theorem FTag.below {w w':World} {A:Option Addr} (h:FTag w A) (hb:Below w.heap.size w w'):FTag w' A:=fun p e=>by
 obtain⟨cur,hc⟩:=h p e;exact⟨cur,(hb.block _ (Array.getElem?_eq_some_iff.1 hc).1).trans hc⟩
section
variable {w W W':World} {d:Bk} {x y:RcA} {v v':Value} {acc:List RcA}
theorem PJ.below (h:PJ w d x v acc W) (hb:Below W.heap.size W W'):PJ w d x v acc W':=by
 obtain⟨⟨h1,h2,h3⟩,h4,h5,h6,h7,h8⟩:=h;exact⟨⟨h1.trans (hb.mono h1.size),h2.below hb h2.lt,h3.below hb h3.lt⟩,h4.below hb h4.lt,h5.below hb h5.lt,own_below h6 hb,fun y hy=>⟨(h7 y hy).1.below hb Nl,(h7 y hy).2.below hb⟩,Nat.le_trans h8 hb.size⟩
theorem PJ.alloc (h:PJ w d x v acc W) (o:Obj):PJ w d x v acc (W.alloc o):=h.below ((Below.refl _ _).alloc Nl o)
theorem PJ.drew (h:PJ w d x v acc W):PJ w d x v acc W.drew:=h.below ((Below.refl _ _).drew)
theorem PJ.grow (h:PJ w d x v acc W) (hG:W.grownBy W' v.ownBlock):SP w d x W'∧BoAt W' (w.heap.size+1+1) (.slice none 0 0)∧BoAt W' (w.heap.size+1+1+1) v:=by
 obtain⟨⟨h1,h2,h3⟩,h4,h5,h6,h7,h8⟩:=h;have ne:∀ p,p<w.heap.size+1+1+1+1→some p≠v.ownBlock:=fun p hp e=>by have:=own_base h6 e.symm;omega
 exact⟨⟨h1.grown hG h1.size (fun g hg=>by have:=own_base h6 hg;omega),h2.same (hG.block _ h2.lt (ne _ (by omega))),h3.same (hG.block _ h3.lt (ne _ (by omega)))⟩,h4.same (hG.block _ h4.lt (ne _ (by omega))),h5.same (hG.block _ h5.lt (ne _ (by omega)))⟩
theorem PJ.step (h:PJ w d x v acc W) (hy:RvAt W y) (ht:FTag W y.A) (hO:W'.ownsRow (w.heap.size+1+1+1+1) 36 19 v' (acc.length+1) ((acc++[y]).flatMap RcA.cs)) (hG:W.grownBy W' v.ownBlock):
  PJ w d x v' (acc++[y]) (W'.setCell ⟨w.heap.size+1+1+1,0,none⟩ v'):=by
 obtain⟨⟨k1,k2,k3⟩,k4,k5⟩:=h.grow hG;obtain⟨_,_,_,h6,h7,h8⟩:=h;have hs:=grownBy_setCell18 W' (w.heap.size+1+1+1) 0 v';have tg:∀ g,some (w.heap.size+1+1+1)=some g→∀ c,W'.heap[g]?≠some (.cells c 59):=fun g e=>by
  obtain rfl:=Option.some.inj e;exact tag_ne k5 (by decide)
 have ne:∀ {p:Nat},p<w.heap.size+1+1+1→some p≠some (w.heap.size+1+1+1):=fun h e=>by have:=Option.some.inj e;omega
 refine⟨⟨k1.setCell (p:=⟨w.heap.size+1+1+1,0,none⟩) (by show w.heap.size≤w.heap.size+1+1+1;omega) v',k2.same (hs.block _ k2.lt (ne (by omega))),k3.same (hs.block _ k3.lt (ne (by omega)))⟩,k4.same (hs.block _ k4.lt (ne (by omega))),k5.put0 v',?_,fun z hz=>?_,Nat.le_trans h8 (Nat.le_trans hG.size hs.size)⟩
 ·rw[List.length_append];refine hO.kept hs ?_;rcases hO.2 with ⟨rfl,_⟩ | ⟨g',cap,cur,rfl,hb',_⟩
  ·exact .inl rfl
  ·exact .inr (fun e=>by (have:g'=w.heap.size+1+1+1:=by simpa [Value.ownBlock] using e);omega)
 ·have hz':RvAt W z∧FTag W z.A:=by
   rcases List.mem_append.1 hz with hz | hz
   ·exact h7 z hz
   ·rw[List.mem_singleton.1 hz];exact⟨hy,ht⟩
  have q1:=hz'.1.kept_tag hz'.2 hG (own_tag h6 (by decide));have q2:=hz'.2.kept hG (own_tag h6 (by decide));exact⟨q1.kept_tag q2 hs tg,q2.kept hs tg⟩
theorem res_bk {fn:Func} {p:Tmp} (h:fn.results=#[.cell p 24]) {tmps:Array Value} {w:World} {g:Nat} {v:Value} (hp:tmps.getD p undef=.pointer (some ⟨g,0,none⟩)) (hs:BoAt w g v):
  (results fn tmps).run Tryz.prog w=.ok (.agg #[v]) w:=by
 have hp':tmps[p]?.getD undef=.pointer (some ⟨g,0,none⟩):=by simpa using hp
 simp[results,h,hp',asAddr,hs.load]
end
theorem build_bkP (w:World):(Instr.build 24 #[]).run Tryz.prog w=.ok (.agg #[.slice none 0 0]) w:=run_build w _ _ _ (show Tryz.prog.built 24 []=some #[.slice none 0 0] by kernel_rfl)
def RPutPost (w:World) (V:List Rc) (e:Ending) (w':World):Prop:=∃ d':Bk,e=.returned (.agg #[.slice d'.A d'.xs.length d'.c])∧d'.rs=V∧BkAt w' d'∧Below w.heap.size w w'
section
variable {ops:Array Oper} {o:Oper} {a:Act} {K:Act→World→Prop} {Q:Exit→Act→World→Prop} {E:Prop}
theorem step_store_oldx {X:World} (hgd:o.guard=none) (p q:Operand) (hop:o.op=.store 36 p q) (b:Nat) (z:RcA) (hb:XAt X b z) (hx:a.eval p=.pointer (some ⟨b,0,none⟩)) (x:RcA) (hy:a.eval q=.agg x.cells) (hz:x.R.z.length=16)
  (hK:∀ w',X.grownBy w' (some b)→XAt w' b x→K (a.put o.dst undef) w'):if Region.wanted o (yielded ops a.tmps)=true then Oper.wp Tryz.prog o a X K Q else E:=by
 have hw:Region.wanted o (yielded ops a.tmps)=true:=by simp[Region.wanted,hgd]
 rw[if_pos hw];unfold Oper.wp;rw[exec_store_row 36 p q hop b x.cells hx hy 36 _ hb.2 (x_size hz) (by rw[cells_len hb.1,cells_len hz]) (x_one x)];exact hK _ (grownBy_setRow X b _) (hb.rc.putAll hz)
theorem step_store_newx {X:World} (hgd:o.guard=none) (p q:Operand) (hop:o.op=.store 36 p q) (b:Nat) (hb:b=X.heap.size) (hx:a.eval p=.pointer (some ⟨b,0,none⟩)) (x:RcA) (hy:a.eval q=.agg x.cells) (hz:x.R.z.length=16)
  (hK:K (a.put o.dst undef) (X.alloc (.cells x.cells 36))):if Region.wanted o (yielded ops a.tmps)=true then Oper.wp Tryz.prog o a (X.alloc (.cells rcA0.cells 36)) K Q else E:=by
 subst hb;have hw:Region.wanted o (yielded ops a.tmps)=true:=by simp[Region.wanted,hgd]
 rw[if_pos hw];unfold Oper.wp;rw[exec_store_row (w:=X.alloc (.cells rcA0.cells 36)) 36 p q hop X.heap.size x.cells hx hy 36 _ (heap_alloc_new X _) (x_size hz) ((rcells_size z16_len _ _ _).trans (cells_len hz).symm) (x_one x)];rw[show (X.alloc (.cells rcA0.cells 36)).setRow X.heap.size x.cells=X.alloc (.cells x.cells 36) from putR X _ _];exact hK
end
section
variable {w W W':World} {d:Bk} {x y:RcA} {v v':Value} {acc:List RcA}
theorem one_rs' (h:RvAt (w.alloc (.cells x.cells 36)) x):RsAt (w.alloc (.cells x.cells 36)) (some ⟨w.heap.size,0,none⟩) 1 [x]:=by
 refine⟨Nat.le_refl _,by decide,(fun h=>by cases h),fun _=>⟨_,0,rfl,by rw[World.size_alloc];omega,fun i hi=>?_⟩,fun y hy=>by rw[List.mem_singleton.1 hy];exact h⟩;obtain rfl:i=0:=by simpa using hi
 exact (XAt.new w h.len).rec
theorem own_ne {n:Nat} {base:Nat} {xs:List Value} (h:W.ownsRow base 36 19 v n xs) {X:World} (e:some X.heap.size=v.ownBlock) (hX:X=W):False:=by
 subst hX;rcases h.2 with ⟨rfl,_⟩ | ⟨g,cap,cur,rfl,_,hg,_⟩
 ·simp[Value.ownBlock]at e
 ·obtain rfl:X.heap.size=g:=by simpa [Value.ownBlock] using e
  exact absurd (Array.getElem?_eq_some_iff.1 hg).1 (Nat.lt_irrefl _)
theorem PJ.byx {p:Nat} (h:PJ w d x v acc W) (hg:W.grownBy W' (some p)) (tg:∀ g,some p=some g→∀ c,W.heap[g]?≠some (.cells c 59)) (hp:w.heap.size+1+1+1+1≤p) (hne:some p≠v.ownBlock):PJ w d x v acc W':=by
 obtain⟨⟨h1,h2,h3⟩,h4,h5,h6,h7,h8⟩:=h;have ne:∀ {q:Nat},q<w.heap.size+1+1+1+1→some q≠some p:=fun h e=>by have:=Option.some.inj e;omega
 refine⟨⟨h1.grown hg h1.size (fun g e=>by have:=Option.some.inj e;omega),h2.same (hg.block _ h2.lt (ne (by omega))),h3.same (hg.block _ h3.lt (ne (by omega)))⟩,h4.same (hg.block _ h4.lt (ne (by omega))),h5.same (hg.block _ h5.lt (ne (by omega))),h6.kept hg (.inr (fun e=>hne e.symm)),fun y hy=>⟨(h7 y hy).1.kept_tag (h7 y hy).2 hg tg,(h7 y hy).2.kept hg tg⟩,Nat.le_trans h8 hg.size⟩
theorem PJ.fin {A:Option Addr} {c:Nat} (h:PJ w d x (.slice A acc.length c) acc W) (hg:W.grownBy W' (some (w.heap.size+1+1))):BkAt W' ⟨acc,A,c⟩:=by
 have tg:∀ g,some (w.heap.size+1+1)=some g→∀ c,W.heap[g]?≠some (.cells c 59):=fun g e=>by
  obtain rfl:=Option.some.inj e;exact tag_ne h.2.1 (by decide)
 refine RsAt.own (base:=w.heap.size+1+1+1+1) (h.2.2.2.1.kept hg ?_) (fun y hy=>(h.2.2.2.2.1 y hy).1.kept_tag (h.2.2.2.2.1 y hy).2 hg tg);cases ho:(Value.slice A acc.length c).ownBlock with
 | none=>exact .inl rfl
 | some g=>exact .inr (fun e=>by have:=own_base h.2.2.2.1 ho;have:=Option.some.inj e;omega)
end
end
section
open Go.RowKit Go.Shelf WM
theorem Tta55 {p:Prop} (h:p:=by
  go_roundw
  case rel=>exact⟨k+1,true,acc++[j],_,by omega,by go_num,rfl,by have:=HAL2.out;simp only[List.length_append,List.length_cons,List.length_nil];omega,J4.out,by rw[HN.out,← HJR.out];simp⟩
  case measure=>simp[intOf];omega
 ):p:=h
theorem Ttb4 {p:Prop} (h:p:=by
  try simp only[Act.put,Z2,Z3,Z4]
  refine wpAnyH_ready (rs:=[9]) (by kernel_rfl) (by simp) (AllReadyH.cons (o:=⟨some 74,_,_,_,_,_⟩) rfl (fun K hK=>?_) AllReadyH.nil);refine step_append_rec (o:=⟨some 74,_,_,_,_,_⟩) rfl _ _ rfl _ v acc ⟨y.R,A0,c0⟩ rfl J2.out.2.2.2.1 (by have:=HAL.out;(try simp only[List.length_append,List.length_cons,List.length_nil]);omega) YZ.out rfl J2.out.2.2.2.2.2 ?_;intro v3 X3 ho3 hg3;obtain⟨g13,cap13,rfl⟩:=ownsRow_succ ho3;have K3:=Yy (J2.out.grow hg3);have J4:=Yy (J2.out.step YV.out YT.out ho3 hg3);clear ho3 hg3;refine hK.out _ _ K3.out.1 (fun hS=>?_);clear hK K
  try simp only[Act.put,Z2,Z3,Z4]
  refine YHd 10 (some 75) _ rfl hS (fun w9 hSw=>by (try dsimp only at hSw);go_simp;try with_reducible rfl) ?_;refine wpAnyH_ready (rs:=[11]) (by kernel_rfl) (by simp) (AllReadyH.cons (o:=⟨none,_,_,_,_,_⟩) rfl (fun K hK=>?_) AllReadyH.nil);have g0:=K3.out.2.2.c0;have gf:=K3.out.2.2.fz 0;go_simp;refine hK.out _ _ J4.out.1 (fun hS=>?_);clear hK K g0 gf K3 J2 J1 YV YT YZ
  try simp only[Act.put,Z2,Z3,Z4]
  refine wpAnyH_done (by kernel_rfl) ?_ _;generalize hv4:(Value.slice (some ⟨g13,0,none⟩) (acc.length+1) cap13)=v4 at *;clear hv4;go_wp2;go_roundw
  case rel=>exact⟨k+1,dn,(acc++[(⟨y.R,A0,c0⟩:RcA)]),_,by omega,by go_num,rfl,by have:=HAK.out;(try simp only[List.length_append,List.length_cons,List.length_nil]);omega,J4.out,by rw[HN.out];simp⟩
  case measure=>simp[intOf];omega
 ):p:=h
theorem Tta9 {p:Prop} (h:p:=by
  try simp only[Act.put,Z2,Z3,Z4]
  refine wpAnyH_ready (rs:=[8]) (by kernel_rfl) (by simp) (AllReadyH.cons (o:=⟨some 73,_,_,_,_,_⟩) rfl (fun K hK=>?_) AllReadyH.nil);refine step_bslice rfl (.tmp 72) rfl ⟨y.R,A0,c0⟩ rfl YZ.out ?_;refine hK.out _ _ J2.out.1 (fun hS=>?_);clear hK K;exact Ttb4
 ):p:=h
theorem Ttc0 {p:Prop} (h:p:=by
  try simp only[Act.put,Z2,Z3,Z4]
  refine wpAnyH_ready (rs:=[9]) (by kernel_rfl) (by simp) (AllReadyH.cons (o:=⟨some 74,_,_,_,_,_⟩) rfl (fun K hK=>?_) AllReadyH.nil);refine step_append_rec (o:=⟨some 74,_,_,_,_,_⟩) rfl _ _ rfl _ v4 acc2 ⟨y.R,A1,c1⟩ rfl J2.out.2.2.2.1 (by have:=HAL.out;(try simp only[List.length_append,List.length_cons,List.length_nil]);omega) YZ.out rfl J2.out.2.2.2.2.2 ?_;intro v3 X3 ho3 hg3;obtain⟨g13,cap13,rfl⟩:=ownsRow_succ ho3;have K3:=Yy (J2.out.grow hg3);have J4:=Yy (J2.out.step YV.out YT.out ho3 hg3);clear ho3 hg3;refine hK.out _ _ K3.out.1 (fun hS=>?_);clear hK K
  try simp only[Act.put,Z2,Z3,Z4]
  refine YHd 10 (some 75) _ rfl hS (fun w9 hSw=>by (try dsimp only at hSw);go_simp;try with_reducible rfl) ?_;refine wpAnyH_ready (rs:=[11]) (by kernel_rfl) (by simp) (AllReadyH.cons (o:=⟨none,_,_,_,_,_⟩) rfl (fun K hK=>?_) AllReadyH.nil);have g0:=K3.out.2.2.c0;have gf:=K3.out.2.2.fz 0;go_simp;refine hK.out _ _ J4.out.1 (fun hS=>?_);clear hK K g0 gf K3 J2 J1 YV YT YZ
  try simp only[Act.put,Z2,Z3,Z4]
  refine wpAnyH_done (by kernel_rfl) ?_ _;generalize hv4:(Value.slice (some ⟨g13,0,none⟩) (acc2.length+1) cap13)=v4 at *;clear hv4;go_wp2;go_roundw
  case rel=>exact⟨k+1,true,(acc2++[(⟨y.R,A1,c1⟩:RcA)]),_,by omega,by go_num,rfl,by have:=HAK.out;(try simp only[List.length_append,List.length_cons,List.length_nil]);omega,J4.out,by rw[HN.out];simp⟩
  case measure=>simp[intOf];omega
 ):p:=h
theorem Ttb2 {p:Prop} (h:p:=by
  try simp only[Act.put,Z2,Z3,Z4]
  refine wpAnyH_ready (rs:=[8]) (by kernel_rfl) (by simp) (AllReadyH.cons (o:=⟨some 73,_,_,_,_,_⟩) rfl (fun K hK=>?_) AllReadyH.nil);refine step_bslice rfl (.tmp 72) rfl ⟨y.R,A1,c1⟩ rfl YZ.out ?_;refine hK.out _ _ J2.out.1 (fun hS=>?_);clear hK K;exact Ttc0
 ):p:=h
theorem Ttb1 {p:Prop} (h:p:=by
  refine step_bslice rfl (.tmp 72) rfl ⟨y.R,A1,c1⟩ rfl YZ.out ?_;refine hK.out _ _ J2.out.1 (fun hS=>?_);clear hK K
  try simp only[Act.put,Z2,Z3,Z4]
  refine wpAnyH_ready (rs:=[1]) (by kernel_rfl) (by simp) (AllReadyH.cons (o:=⟨some 66,_,_,_,_,_⟩) rfl (fun K hK=>?_) AllReadyH.nil);have g0:=J2.out.2.2.1.c0;go_simp;refine hK.out _ _ J2.out.1 (fun hS=>?_);clear hK K g0;exact Ttc0
 ):p:=h
theorem Tta0 {p:Prop} (h:p:=by
  try simp only[Act.put,Z2,Z3,Z4]
  refine wpAnyH_ready (rs:=[4]) (by kernel_rfl) (by simp) (AllReadyH.cons (o:=⟨some 37,_,_,_,_,_⟩) rfl (fun K hK=>?_) AllReadyH.nil);refine step_bslice rfl (.tmp 36) rfl ⟨x.R,A0,c0⟩ rfl YZ.out ?_;refine hK.out _ _ J2.out.1 (fun hS=>?_);clear hK K
  try simp only[Act.put,Z2,Z3,Z4]
  refine wpAnyH_ready (rs:=[5]) (by kernel_rfl) (by simp) (AllReadyH.cons (o:=⟨some 38,_,_,_,_,_⟩) rfl (fun K hK=>?_) AllReadyH.nil);refine step_append_rec (o:=⟨some 38,_,_,_,_,_⟩) rfl _ _ rfl _ v acc ⟨x.R,A0,c0⟩ rfl J2.out.2.2.2.1 (by have:=HAL.out;(try simp only[List.length_append,List.length_cons,List.length_nil]);omega) YZ.out rfl J2.out.2.2.2.2.2 ?_;intro v3 X3 ho3 hg3;obtain⟨g13,cap13,rfl⟩:=ownsRow_succ ho3;have K3:=Yy (J2.out.grow hg3);have J4:=Yy (J2.out.step YV.out YT.out ho3 hg3);clear ho3 hg3;refine hK.out _ _ K3.out.1 (fun hS=>?_);clear hK K
  try simp only[Act.put,Z2,Z3,Z4]
  refine YHd 6 (some 39) _ rfl hS (fun w9 hSw=>by (try dsimp only at hSw);go_simp;try with_reducible rfl) ?_;refine wpAnyH_ready (rs:=[7]) (by kernel_rfl) (by simp) (AllReadyH.cons (o:=⟨none,_,_,_,_,_⟩) rfl (fun K hK=>?_) AllReadyH.nil);have g0:=K3.out.2.2.c0;have gf:=K3.out.2.2.fz 0;go_simp;refine hK.out _ _ J4.out.1 (fun hS=>?_);clear hK K g0 gf K3 J2 J1 YV YT YZ
  try simp only[Act.put,Z2,Z3,Z4]
  refine wpAnyH_done (by kernel_rfl) ?_ _;generalize hv4:(Value.slice (some ⟨g13,0,none⟩) (acc.length+1) cap13)=v4 at *;clear hv4;obtain⟨acc2,hacc2⟩:∃ a,a=acc++[(⟨x.R,A0,c0⟩:RcA)]:=⟨_,rfl⟩;rw[← hacc2]at J4;have HN:=Yy (show V=(acc2.map (·.R)++[y.R])++rpL x.R true ((d.xs.drop (k+1)).map (·.R)) by rw[HN.out,hacc2];simp);have HAK:=Yy (show acc2.length≤2*k+1 by have:=HAK.out;rw[hacc2,List.length_append];simp only[List.length_cons,List.length_nil];omega);have HAL:=Yy (show acc2.length≤3000 by have:=HAL.out;rw[hacc2,List.length_append];simp only[List.length_cons,List.length_nil];omega);clear hacc2;go_wp2_with fail;refine wp_region_G _ (by kernel_rfl) ?_;refine YGa 0 (some 40) rfl ?_;refine YGb 1 (some 41) rfl (fun w9 hSw=>(J4.out.1.2.1.below hSw J4.out.1.2.1.lt).c0) ?_;refine YGa 2 (some 42) rfl ?_;refine YGb 3 (some 43) rfl (fun w9 hSw=>IX.out w9) ?_;refine YGa 4 (some 44) rfl ?_;refine YGd 5 (some 45) (.agg (bvals y.R.z)) rfl (fun w9 hSw=>by exact exec_load_by 31 _ rfl ⟨b0,off+k*19,none⟩ rfl (HREC.out.same ((J4.out.1.1.trans (hSw.mono J4.out.1.1.size)).block b0 hb0)).load_id) ?_;refine YGa 6 (some 46) rfl ?_;refine YGd 7 (some 47) (.agg (bvals x.R.z)) rfl (fun w9 hSw=>by exact exec_load_by 31 _ rfl ⟨w.heap.size+1,0,none⟩ rfl (J4.out.1.2.2.below hSw J4.out.1.2.2.lt).load_id) ?_;refine YGb 8 (some 48) rfl (fun w9 hSw=>HEQ.out w9) ?_;refine wpG_done (by kernel_rfl) ?_ _;intro w10 hSw _;have J10:=Yy (J4.out.below hSw);clear hSw;go_wp2_with fail;clear J4
  refine wp_region_held_drew (S:=fun w'=>SP w d x w') (by kernel_rfl) J10.out.drew.1 (fun hS=>?_);have JD:=Yy J10.out.drew;generalize World.drew _=X at *;refine YHd 0 (some 65) _ rfl hS (fun w9 hSw=>by (try dsimp only at hSw);go_simp;try with_reducible rfl) ?_;refine YHd 2 (some 67) _ rfl hS (fun w9 hSw=>by (try dsimp only at hSw);go_simp;try with_reducible rfl) ?_;refine YHd 3 (some 68) _ rfl hS (fun w9 hSw=>by (try dsimp only at hSw);have q0:=hSw.2.1.c0;go_simp;try with_reducible rfl) ?_;refine YHd 4 (some 69) _ rfl hS (fun w9 hSw=>by (try dsimp only at hSw);go_simp;try with_reducible rfl) ?_;refine YHd 5 (some 70) _ rfl hS (fun w9 hSw=>by (try dsimp only at hSw);have q0:=IX.out w9;go_simp;try with_reducible rfl) ?_;refine YHd 6 (some 71) (.agg y.cells) rfl hS (fun w9 hSw=>by (try dsimp only at hSw);exact exec_load_by 36 _ rfl ⟨b0,off+k*19,none⟩ rfl (HREC.out.same (hSw.1.block b0 hb0)).load) ?_;refine wpAnyH_ready (rs:=[1,7]) (by kernel_rfl) (by simp) (AllReadyH.cons (o:=⟨some 66,_,_,_,_,_⟩) rfl (fun K hK=>?_) (AllReadyH.cons (o:=⟨some 72,_,_,_,_,_⟩) rfl (fun K hK=>?_) AllReadyH.nil))
  ·have g0:=JD.out.2.2.1.c0;go_simp;refine hK.out _ _ JD.out.1 (fun hS=>?_);clear hK K g0
   try simp only[Act.put,Z2,Z3,Z4]
   refine wpAnyH_ready (rs:=[7]) (by kernel_rfl) (by simp) (AllReadyH.cons (o:=⟨some 72,_,_,_,_,_⟩) rfl (fun K hK=>?_) AllReadyH.nil);go_simp;refine (rown_any y _ (HVY.out.below JD.out.1.1 Nl) HLY.out).mono ?_;rintro e X1 ⟨A1,c1,rfl,hyv,hyt,hb0'⟩;have J1:=Yy (JD.out.below hb0');have J2:=Yy (J1.out.alloc (.cells (RcA.cells ⟨y.R,A1,c1⟩) 36));have YZ:=Yy hyv.len;have YV:=Yy (hyv.below ((Below.refl _ _).alloc Nl (.cells (RcA.cells ⟨y.R,A1,c1⟩) 36)) Nl);have YT:=Yy (hyt.below ((Below.refl _ _).alloc Nl (.cells (RcA.cells ⟨y.R,A1,c1⟩) 36)));clear hyv hyt;refine hK.out _ _ J1.out.1 (fun hS=>?_);clear hK K hb0';exact Ttb2
  ·go_simp;refine (rown_any y _ (HVY.out.below JD.out.1.1 Nl) HLY.out).mono ?_;rintro e X1 ⟨A1,c1,rfl,hyv,hyt,hb0'⟩;have J1:=Yy (JD.out.below hb0');have J2:=Yy (J1.out.alloc (.cells (RcA.cells ⟨y.R,A1,c1⟩) 36));have YZ:=Yy hyv.len;have YV:=Yy (hyv.below ((Below.refl _ _).alloc Nl (.cells (RcA.cells ⟨y.R,A1,c1⟩) 36)) Nl);have YT:=Yy (hyt.below ((Below.refl _ _).alloc Nl (.cells (RcA.cells ⟨y.R,A1,c1⟩) 36)));clear hyv hyt;refine hK.out _ _ J1.out.1 (fun hS=>?_);clear hK K hb0'
   try simp only[Act.put,Z2,Z3,Z4]
   refine wpAnyH_ready (rs:=[1,8]) (by kernel_rfl) (by simp) (AllReadyH.cons (o:=⟨some 66,_,_,_,_,_⟩) rfl (fun K hK=>?_) (AllReadyH.cons (o:=⟨some 73,_,_,_,_,_⟩) rfl (fun K hK=>?_) AllReadyH.nil))
   ·have g0:=J1.out.2.2.1.c0;go_simp;refine hK.out _ _ J1.out.1 (fun hS=>?_);clear hK K g0;exact Ttb2
   ·exact Ttb1
 ):p:=h
theorem Tta7 {p:Prop} (h:p:=by
  exact Ttb2
 ):p:=h
theorem Ttb3 {p:Prop} (h:p:=by
  try simp only[Act.put,Z2,Z3,Z4]
  refine wpAnyH_ready (rs:=[9]) (by kernel_rfl) (by simp) (AllReadyH.cons (o:=⟨some 74,_,_,_,_,_⟩) rfl (fun K hK=>?_) AllReadyH.nil);refine step_append_rec (o:=⟨some 74,_,_,_,_,_⟩) rfl _ _ rfl _ v acc ⟨y.R,A0,c0⟩ rfl J2.out.2.2.2.1 (by have:=HAL.out;(try simp only[List.length_append,List.length_cons,List.length_nil]);omega) YZ.out rfl J2.out.2.2.2.2.2 ?_;intro v3 X3 ho3 hg3;obtain⟨g13,cap13,rfl⟩:=ownsRow_succ ho3;have K3:=Yy (J2.out.grow hg3);have J4:=Yy (J2.out.step YV.out YT.out ho3 hg3);clear ho3 hg3;refine hK.out _ _ K3.out.1 (fun hS=>?_);clear hK K
  try simp only[Act.put,Z2,Z3,Z4]
  refine YHd 10 (some 75) _ rfl hS (fun w9 hSw=>by (try dsimp only at hSw);go_simp;try with_reducible rfl) ?_;refine wpAnyH_ready (rs:=[11]) (by kernel_rfl) (by simp) (AllReadyH.cons (o:=⟨none,_,_,_,_,_⟩) rfl (fun K hK=>?_) AllReadyH.nil);have g0:=K3.out.2.2.c0;have gf:=K3.out.2.2.fz 0;go_simp;refine hK.out _ _ J4.out.1 (fun hS=>?_);clear hK K g0 gf K3 J2 J1 YV YT YZ
  try simp only[Act.put,Z2,Z3,Z4]
  refine wpAnyH_done (by kernel_rfl) ?_ _;generalize hv4:(Value.slice (some ⟨g13,0,none⟩) (acc.length+1) cap13)=v4 at *;clear hv4;go_wp2;go_roundw
  case rel=>exact⟨k+1,true,(acc++[(⟨y.R,A0,c0⟩:RcA)]),_,by omega,by go_num,rfl,by have:=HAK.out;(try simp only[List.length_append,List.length_cons,List.length_nil]);omega,J4.out,by rw[HN.out];simp⟩
  case measure=>simp[intOf];omega
 ):p:=h
theorem Tta8 {p:Prop} (h:p:=by
  try simp only[Act.put,Z2,Z3,Z4]
  refine wpAnyH_ready (rs:=[8]) (by kernel_rfl) (by simp) (AllReadyH.cons (o:=⟨some 73,_,_,_,_,_⟩) rfl (fun K hK=>?_) AllReadyH.nil);refine step_bslice rfl (.tmp 72) rfl ⟨y.R,A0,c0⟩ rfl YZ.out ?_;refine hK.out _ _ J2.out.1 (fun hS=>?_);clear hK K;exact Ttb3
 ):p:=h
theorem Ttb0 {p:Prop} (h:p:=by
  try simp only[Act.put,Z2,Z3,Z4]
  refine wpAnyH_ready (rs:=[5]) (by kernel_rfl) (by simp) (AllReadyH.cons (o:=⟨some 83,_,_,_,_,_⟩) rfl (fun K hK=>?_) AllReadyH.nil);refine step_append_rec (o:=⟨some 83,_,_,_,_,_⟩) rfl _ _ rfl _ v acc ⟨x.R,A0,c0⟩ rfl J2.out.2.2.2.1 (by have:=HAL.out;(try simp only[List.length_append,List.length_cons,List.length_nil]);omega) YZ.out rfl J2.out.2.2.2.2.2 ?_;intro v3 X3 ho3 hg3;obtain⟨g13,cap13,rfl⟩:=ownsRow_succ ho3;have K3:=Yy (J2.out.grow hg3);have J4:=Yy (J2.out.step YV.out YT.out ho3 hg3);clear ho3 hg3;refine hK.out _ _ K3.out.1 (fun hS=>?_);clear hK K
  try simp only[Act.put,Z2,Z3,Z4]
  refine YHd 6 (some 84) _ rfl hS (fun w9 hSw=>by (try dsimp only at hSw);go_simp;try with_reducible rfl) ?_;refine wpAnyH_ready (rs:=[7]) (by kernel_rfl) (by simp) (AllReadyH.cons (o:=⟨none,_,_,_,_,_⟩) rfl (fun K hK=>?_) AllReadyH.nil);have g0:=K3.out.2.2.c0;have gf:=K3.out.2.2.fz 0;go_simp;refine hK.out _ _ J4.out.1 (fun hS=>?_);clear hK K g0 gf K3 J2 J1 YV YT YZ
  try simp only[Act.put,Z2,Z3,Z4]
  refine wpAnyH_done (by kernel_rfl) ?_ _;generalize hv4:(Value.slice (some ⟨g13,0,none⟩) (acc.length+1) cap13)=v4 at *;clear hv4;obtain⟨A9,c9,hv9⟩:=own_slice J4.out.2.2.2.1;subst hv9;have JE:=Yy (show PJ w d x (.slice A9 (acc++[(⟨x.R,A0,c0⟩:RcA)]).length c9) (acc++[(⟨x.R,A0,c0⟩:RcA)]) _ from J4.out);clear J4;have LB:=Yy JE.out.2.2.1.load;have EB:=Yy JE.out.2.1;go_wp2_with (first | ((with_reducible refine YyL 24 (.tmp 5) ⟨(w.heap.size+1+1+1),0,none⟩ LB.out ?_ ?_ ?_);rfl;rfl) | ((with_reducible refine wpList_store_oldb (o:=⟨none,.store 24 (.tmp 4) (.tmp 85),_,_,_,_⟩) ?_ (.tmp 4) (.tmp 85) ?_ (w.heap.size+1+1) _ EB.out ?_ (.slice A9 (acc++[(⟨x.R,A0,c0⟩:RcA)]).length c9) ?_ ?_ ?_);rfl;rfl;rfl;rfl;rfl;intro w2 hg2 hx2;have G9:=Yy hg2;have X9:=Yy hx2;clear hg2 hx2));refine bodyPost_ret (v:=.agg #[.slice A9 (acc++[(⟨x.R,A0,c0⟩:RcA)]).length c9]) ?_ rfl ?_
  ·exact res_bk Tryz.results73 rfl X9.out
  ·exact⟨⟨(acc++[(⟨x.R,A0,c0⟩:RcA)]),A9,c9⟩,rfl,by rw[HN.out];unfold Bk.rs;simp,PJ.fin JE.out G9.out,JE.out.1.1.grown G9.out JE.out.1.1.size (fun k e=>by have:=Option.some.inj e;omega)⟩
 ):p:=h
theorem Tta6 {p:Prop} (h:p:=by
  try simp only[Act.put,Z2,Z3,Z4]
  refine wpAnyH_ready (rs:=[4]) (by kernel_rfl) (by simp) (AllReadyH.cons (o:=⟨some 82,_,_,_,_,_⟩) rfl (fun K hK=>?_) AllReadyH.nil);refine step_bslice rfl (.tmp 81) rfl ⟨x.R,A0,c0⟩ rfl YZ.out ?_;refine hK.out _ _ J2.out.1 (fun hS=>?_);clear hK K;exact Ttb0
 ):p:=h
theorem rbput_any (d:Bk) (x:RcA) (w:World) (hd:BkAt w d) (hx:RvAt w x) (hdl:d.xs.length≤1000) (hfs:∀ y∈d.xs,y.R.fs.length≤1000) (hxl:x.R.fs.length≤1000):
  Calls Tryz.prog 73 #[.agg #[.slice d.A d.xs.length d.c],.agg x.cells] w (RPutPost w (rpL x.R false d.rs)):=by
 have HD:=Yy hd;have HX:=Yy hx;have HXL:=Yy hxl;have HFS:Hid (∀ i,i<d.xs.length→(d.xs.getD i rcA0).R.fs.length≤1000):=Yy (fun i hi=>hfs _ (by rw[List.getD_eq_getElem?_getD,List.getElem?_eq_getElem hi];exact List.getElem_mem _));have HRV:=Yy (fun i (hi:i<d.xs.length)=>RsAt.rv hd hi);have HC:=Yy hd.2.2.2.1;have hcap:=hd.2.1;have hlc:=hd.1;simp only[maxLen]at hcap;have b0:=((BoAt.new w (.slice d.A d.xs.length d.c)).old (.cells x.cells 36)).old (.cells #[.slice none 0 0] 24) |>.old (.cells #[.slice none 0 0] 24)
 have x1:=(XAt.new (w.alloc (.cells #[.slice d.A d.xs.length d.c] 24)) hx.len).old (.cells #[.slice none 0 0] 24) |>.old (.cells #[.slice none 0 0] 24)
 rw[World.size_alloc]at x1;have b2:=(BoAt.new ((w.alloc (.cells #[.slice d.A d.xs.length d.c] 24)).alloc (.cells x.cells 36)) (.slice none 0 0)).old (.cells #[.slice none 0 0] 24);rw[World.size_alloc,World.size_alloc]at b2;have b3:=BoAt.new (((w.alloc (.cells #[.slice d.A d.xs.length d.c] 24)).alloc (.cells x.cells 36)).alloc (.cells #[.slice none 0 0] 24)) (.slice none 0 0);rw[World.size_alloc,World.size_alloc,World.size_alloc]at b3;have hb:=((((Below.refl w.heap.size w).alloc Nl (.cells #[.slice d.A d.xs.length d.c] 24)).alloc (by simp) (.cells x.cells 36)).alloc (by simp;omega) (.cells #[.slice none 0 0] 24)).alloc (by simp;omega) (.cells #[.slice none 0 0] 24);have J0:Hid (PJ w d x (.slice none 0 0) [] ((((w.alloc (.cells #[.slice d.A d.xs.length d.c] 24)).alloc (.cells x.cells 36)).alloc (.cells #[.slice none 0 0] 24)).alloc (.cells #[.slice none 0 0] 24))):=Yy ⟨⟨hb,b0,x1⟩,b2,b3,World.ownsRow_nil _ _ _ _,(fun y hy=>by cases hy),by simp⟩;have hz:=zeroBook;unfold Bk.v Bk.s bk0 at hz;have hbn:=build_bkP;have HV0:Hid (rpL x.R false d.rs=([]:List RcA).map (·.R)++rpL x.R false ((d.xs.drop 0).map (·.R))):=Yy (by rw[List.drop_zero];rfl);have HST:=Yy (fun (dn:Bool) (k:Nat) (hk:k<d.xs.length)=>rpL_step x.R dn hk);have HOKX:=Yy hx.1;have HIX:=Yy (fun b off k hk w9=>ix_rec b off d.xs.length d.c k hk k rfl w9);generalize rpL x.R false d.rs=V at *;clear b0 x1 b2 b3 hb hd hx hfs hxl;go_enter Tryz.func73,Tryz.ntmps73;go_wp2
 go_loopw [6,7] (fun dv i wq=>∃ (k:Nat) (dn:Bool) (acc:List RcA) (v:Value),k≤d.xs.length∧i=.int .i64 k∧dv=.bool dn∧acc.length≤2*k∧PJ w d x v acc wq∧V=acc.map (·.R)++rpL x.R dn ((d.xs.drop k).map (·.R))) (fun _ i _=>d.xs.length - (intOf i).toNat)
 case atStart=>exact⟨0,false,[],_,Nat.zero_le _,rfl,rfl,Nat.le_refl _,J0.out,HV0.out⟩
 case round=>
  obtain⟨k,dn,acc,v,hk,rfl,rfl,hal,hJ,hV⟩:=hrel;clear J0 HV0;have J:=Yy hJ;have HAL:=Yy (show acc.length≤2000 by omega);have HAK:=Yy hal;have c00:=hJ.1.2.1.c0;by_cases hlt:k<d.xs.length
  ·have t1:(k:Int)<(d.xs.length:Int):=by omega
   obtain⟨b0,off,hA,hb0,hcc⟩:=HC.out (by omega);have HA:=Yy hA;have HREC:=Yy (hcc k hlt);have IX:=Yy (HIX.out b0 off k hlt);rw[← hA]at IX;have HVY:=Yy (HRV.out k hlt);have HLY:=Yy (HFS.out k hlt);have hst:=HST.out dn k hlt;generalize d.xs.getD k rcA0=y at *;have HEQ:=Yy (eq_id HVY.out.1.2 HOKX.out.2 HVY.out.1.1 HOKX.out.1);have HLS:=Yy (fun w9=>rbless_any x.R.z y.R.z w9 HOKX.out.2 HVY.out.1.2 HOKX.out.1 HVY.out.1.1);have hzz:(y.R.z == x.R.z)=decide (y.R.z=x.R.z):=by rw[Bool.eq_iff_iff];simp
   rw[hzz]at HEQ;clear hA hcc hJ hal hzz;cases hl:lessL x.R.z y.R.z
   ·rw[hl]at HLS hst;by_cases he:y.R.z=x.R.z
    ·have hd:decide (y.R.z=x.R.z)=true:=by simp[he]
     rw[hd]at HEQ;rw[if_pos he,hd]at hst;have HN:=Yy (show V=(acc.map (·.R)++[(y.R.join x.R).getD rc0])++rpL x.R true ((d.xs.drop (k+1)).map (·.R)) by rw[hV,hst];simp);clear hl he hd hst hV;go_wp2_with fail;clear c00;refine wp_region_G _ (by kernel_rfl) ?_;refine YGa 0 (some 19) rfl ?_;refine YGd 1 (some 20) (.agg (bvals x.R.z)) rfl (fun w9 hSw=>by exact exec_load_by 31 _ rfl ⟨w.heap.size+1,0,none⟩ rfl (J.out.1.2.2.below hSw J.out.1.2.2.lt).load_id) ?_;refine YGa 2 (some 21) rfl ?_;refine YGb 3 (some 22) rfl (fun w9 hSw=>(J.out.1.2.1.below hSw J.out.1.2.1.lt).c0) ?_;refine YGa 4 (some 23) rfl ?_;refine YGb 5 (some 24) rfl (fun w9 hSw=>IX.out w9) ?_;refine YGa 6 (some 25) rfl ?_;refine YGd 7 (some 26) (.agg (bvals y.R.z)) rfl (fun w9 hSw=>by exact exec_load_by 31 _ rfl ⟨b0,off+k*19,none⟩ rfl (HREC.out.same ((J.out.1.1.trans (hSw.mono J.out.1.1.size)).block b0 hb0)).load_id) ?_;refine YGk 8 (some 27) rfl HLS.out ?_;refine YGa 9 (some 8) rfl ?_;refine wpG_done (by kernel_rfl) ?_ _;intro w6 hSw _;have J6:=Yy (J.out.below hSw);clear hSw;go_wp2_with fail;refine wp_region_G _ (by kernel_rfl) ?_;refine YGa 0 (some 40) rfl ?_;refine YGb 1 (some 41) rfl (fun w9 hSw=>(J6.out.1.2.1.below hSw J6.out.1.2.1.lt).c0) ?_;refine YGa 2 (some 42) rfl ?_;refine YGb 3 (some 43) rfl (fun w9 hSw=>IX.out w9) ?_;refine YGa 4 (some 44) rfl ?_
     refine YGd 5 (some 45) (.agg (bvals y.R.z)) rfl (fun w9 hSw=>by exact exec_load_by 31 _ rfl ⟨b0,off+k*19,none⟩ rfl (HREC.out.same ((J6.out.1.1.trans (hSw.mono J6.out.1.1.size)).block b0 hb0)).load_id) ?_;refine YGa 6 (some 46) rfl ?_;refine YGd 7 (some 47) (.agg (bvals x.R.z)) rfl (fun w9 hSw=>by exact exec_load_by 31 _ rfl ⟨w.heap.size+1,0,none⟩ rfl (J6.out.1.2.2.below hSw J6.out.1.2.2.lt).load_id) ?_;refine YGb 8 (some 48) rfl (fun w9 hSw=>HEQ.out w9) ?_;refine wpG_done (by kernel_rfl) ?_ _;intro w10 hSw _;have J10:=Yy (J6.out.below hSw);clear hSw;go_wp2_with fail;have HAL2:=Yy (show acc.length≤2*k from HAK.out);refine wp_region_held_drew (S:=fun w'=>SP w d x w') (by kernel_rfl) J10.out.drew.1 (fun hS=>?_);have JD:=Yy J10.out.drew;generalize World.drew _=X at *;refine YHd 0 (some 50) _ rfl hS (fun w9 hSw=>by (try dsimp only at hSw);go_simp;try with_reducible rfl) ?_;refine YHd 1 (some 51) _ rfl hS (fun w9 hSw=>by (try dsimp only at hSw);have q0:=hSw.2.1.c0;go_simp;try with_reducible rfl) ?_;refine YHd 2 (some 52) _ rfl hS (fun w9 hSw=>by (try dsimp only at hSw);go_simp;try with_reducible rfl) ?_;refine YHd 3 (some 53) _ rfl hS (fun w9 hSw=>by (try dsimp only at hSw);have q0:=IX.out w9;go_simp;try with_reducible rfl) ?_;refine YHd 4 (some 54) (.agg y.cells) rfl hS (fun w9 hSw=>by (try dsimp only at hSw);exact exec_load_by 36 _ rfl ⟨b0,off+k*19,none⟩ rfl (HREC.out.same (hSw.1.block b0 hb0)).load) ?_
     refine YHd 5 (some 55) (.agg x.cells) rfl hS (fun w9 hSw=>by (try dsimp only at hSw);exact exec_load_by 36 _ rfl ⟨w.heap.size+1,0,none⟩ rfl hSw.2.2.load) ?_;refine wpAnyH_ready (rs:=[6,10]) (by kernel_rfl) (by simp) (AllReadyH.cons (o:=⟨some 56,_,_,_,_,_⟩) rfl (fun K hK=>?_) (AllReadyH.cons (o:=⟨some 9,_,_,_,_,_⟩) rfl (fun K hK=>?_) AllReadyH.nil))
     ·go_simp;refine (rrjoin_any y x _ (HVY.out.below JD.out.1.1 Nl) (HX.out.below JD.out.1.1 Nl) HLY.out HXL.out).mono ?_;rintro e X1 ⟨j,rfl,hjR,hjv,hjt,hb0'⟩;have J1:=Yy (JD.out.below hb0');refine hK.out _ _ J1.out.1 (fun hS=>?_);clear hK K
      try simp only[Act.put,Z2,Z3,Z4]
      refine YHd 7 (some 49) _ rfl hS (fun w9 hSw=>by (try dsimp only at hSw);go_simp;try with_reducible rfl) ?_;refine YHd 8 (some 57) _ rfl hS (fun w9 hSw=>by (try dsimp only at hSw);go_simp;try with_reducible rfl) ?_;refine YHd 9 (some 58) _ rfl hS (fun w9 hSw=>by (try dsimp only at hSw);go_simp;try with_reducible rfl) ?_;refine wpAnyH_ready (rs:=[10]) (by kernel_rfl) (by simp) (AllReadyH.cons (o:=⟨some 9,_,_,_,_,_⟩) rfl (fun K hK=>?_) AllReadyH.nil);go_simp;have J2:=Yy (J1.out.alloc (.cells j.cells 36));have K2:=Yy (J1.out.alloc (.cells rcA0.cells 36));have GX:=Yy (XAt.new X1 hjv.len);have G0:=Yy (XAt.new (x:=rcA0) X1 z16_len);have JV:=Yy (hjv.below ((Below.refl _ _).alloc Nl (.cells j.cells 36)) Nl);have JT:=Yy (hjt.below ((Below.refl _ _).alloc Nl (.cells j.cells 36)));have HJR:=Yy hjR;have hjz:=Yy hjv.len;refine hK.out _ _ K2.out.1 (fun hS=>?_);clear hK K hjR hjv hjt hb0'
      try simp only[Act.put,Z2,Z3,Z4]
      refine wpAnyH_ready (rs:=[11]) (by kernel_rfl) (by simp) (AllReadyH.cons (o:=⟨none,_,_,_,_,_⟩) rfl (fun K hK=>?_) AllReadyH.nil);refine step_store_newx rfl (.tmp 9) (.tmp 57) rfl X1.heap.size rfl rfl j rfl hjz.out ?_;refine hK.out _ _ J2.out.1 (fun hS=>?_);clear hK K
      try simp only[Act.put]
      refine YHd 12 (some 10) _ rfl hS (fun w9 hSw=>by (try dsimp only at hSw);go_simp;try with_reducible rfl) ?_;refine wpAnyH_done (by kernel_rfl) ?_ _;have LJ:=Yy GX.out.load;have JZ:=Yy JV.out.len;have J3:=Yy (J2.out.alloc (.cells j.cells 36));have JV3:=Yy (JV.out.below ((Below.refl _ _).alloc Nl (.cells j.cells 36)) Nl);have JT3:=Yy (JT.out.below ((Below.refl _ _).alloc Nl (.cells j.cells 36)));have F3:=Yy (one_rs' JV3.out);have g0:=J2.out.2.2.1.c0;have VO:=Yy J3.out.2.2.2.1;have VS:=Yy J3.out.2.2.2.2.2;have VL:Hid (acc.length+1≤100000):=Yy (by have:=HAL.out;omega);obtain⟨i0,hi,hz0,hz1,hz2⟩:=info_parts infoRec;go_wp2_with (first | ((with_reducible refine YyL 36 (.tmp 9) ⟨X1.heap.size,0,none⟩ LJ.out ?_ ?_ ?_);rfl;rfl) | ((with_reducible refine wpList_bslice (o:=⟨some 62,.buildSlice 22 1 #[(0,.tmp 61)],_,_,_,_⟩) ?_ (.tmp 61) ?_ j ?_ JZ.out ?_);rfl;rfl;rfl) | (at_builtin;refine wpList_append_rec _ rfl _ _ 22 rfl (w.heap.size+1+1+1+1) 36 i0 Tryz.underlying22 hi hz0 hz1 hz2 _ acc.length acc rfl VO.out (some ⟨(X1.alloc (.cells j.cells 36)).heap.size,0,none⟩) 1 1 [j] rfl F3.out rfl VL.out VS.out ?_;intro v3 X3 ho3 hg3;obtain⟨g13,cap13,rfl⟩:=ownsRow_succ ho3;have K3:=Yy (J3.out.grow hg3);have J4:=Yy (J3.out.step JV3.out JT3.out ho3 hg3);have g0:=K3.out.2.2.c0;have gf:=K3.out.2.2.fz 0;clear ho3 hg3));exact Tta55
     ·go_simp;have K1:=Yy (JD.out.alloc (.cells rcA0.cells 36));have G0:=Yy (XAt.new (x:=rcA0) X z16_len);refine hK.out _ _ K1.out.1 (fun hS=>?_);clear hK K
      try simp only[Act.put,Z2,Z3,Z4]
      refine wpAnyH_ready (rs:=[6]) (by kernel_rfl) (by simp) (AllReadyH.cons (o:=⟨some 56,_,_,_,_,_⟩) rfl (fun K hK=>?_) AllReadyH.nil);go_simp;refine (rrjoin_any y x _ (HVY.out.below K1.out.1.1 Nl) (HX.out.below K1.out.1.1 Nl) HLY.out HXL.out).mono ?_;rintro e X1 ⟨j,rfl,hjR,hjv,hjt,hb0'⟩;have J1:=Yy (K1.out.below hb0');have G1:=Yy (G0.out.below hb0' G0.out.lt);have HJR:=Yy hjR;have HJV:=Yy hjv;have HJT:=Yy hjt;clear hjR hjv hjt hb0';refine hK.out _ _ J1.out.1 (fun hS=>?_);clear hK K
      try simp only[Act.put,Z2,Z3,Z4]
      refine YHd 7 (some 49) _ rfl hS (fun w9 hSw=>by (try dsimp only at hSw);go_simp;try with_reducible rfl) ?_;refine YHd 8 (some 57) _ rfl hS (fun w9 hSw=>by (try dsimp only at hSw);go_simp;try with_reducible rfl) ?_;refine YHd 9 (some 58) _ rfl hS (fun w9 hSw=>by (try dsimp only at hSw);go_simp;try with_reducible rfl) ?_;refine wpAnyH_ready (rs:=[11]) (by kernel_rfl) (by simp) (AllReadyH.cons (o:=⟨none,_,_,_,_,_⟩) rfl (fun K hK=>?_) AllReadyH.nil);refine step_store_oldx rfl (.tmp 9) (.tmp 57) rfl X.heap.size rcA0 G1.out rfl j rfl HJV.out.len ?_;intro X2 hg2 hx2;have GX:=Yy hx2;have tg:∀ g,some X.heap.size=some g→∀ c,X1.heap[g]?≠some (.cells c 59):=fun g e=>by
       obtain rfl:=Option.some.inj e;exact tag_ne G1.out.2 (by decide)
      have J2:=Yy (J1.out.byx hg2 tg (JD.out.2.2.2.2.2) (fun e=>own_ne JD.out.2.2.2.1 e rfl));have JV:=Yy (HJV.out.kept_tag HJT.out hg2 tg);have JT:=Yy (HJT.out.kept hg2 tg);refine hK.out _ _ J2.out.1 (fun hS=>?_);clear hK K tg hg2 hx2
      try simp only[Act.put]
      refine YHd 12 (some 10) _ rfl hS (fun w9 hSw=>by (try dsimp only at hSw);go_simp;try with_reducible rfl) ?_;refine wpAnyH_done (by kernel_rfl) ?_ _;have LJ:=Yy GX.out.load;have JZ:=Yy JV.out.len;have J3:=Yy (J2.out.alloc (.cells j.cells 36));have JV3:=Yy (JV.out.below ((Below.refl _ _).alloc Nl (.cells j.cells 36)) Nl);have JT3:=Yy (JT.out.below ((Below.refl _ _).alloc Nl (.cells j.cells 36)));have F3:=Yy (one_rs' JV3.out);have g0:=J2.out.2.2.1.c0;have VO:=Yy J3.out.2.2.2.1;have VS:=Yy J3.out.2.2.2.2.2;have VL:Hid (acc.length+1≤100000):=Yy (by have:=HAL.out;omega);obtain⟨i0,hi,hz0,hz1,hz2⟩:=info_parts infoRec;go_wp2_with (first | ((with_reducible refine YyL 36 (.tmp 9) ⟨X.heap.size,0,none⟩ LJ.out ?_ ?_ ?_);rfl;rfl) | ((with_reducible refine wpList_bslice (o:=⟨some 62,.buildSlice 22 1 #[(0,.tmp 61)],_,_,_,_⟩) ?_ (.tmp 61) ?_ j ?_ JZ.out ?_);rfl;rfl;rfl) | (at_builtin;refine wpList_append_rec _ rfl _ _ 22 rfl (w.heap.size+1+1+1+1) 36 i0 Tryz.underlying22 hi hz0 hz1 hz2 _ acc.length acc rfl VO.out (some ⟨X2.heap.size,0,none⟩) 1 1 [j] rfl F3.out rfl VL.out VS.out ?_;intro v3 X3 ho3 hg3;obtain⟨g13,cap13,rfl⟩:=ownsRow_succ ho3;have K3:=Yy (J3.out.grow hg3);have J4:=Yy (J3.out.step JV3.out JT3.out ho3 hg3);have g0:=K3.out.2.2.c0;have gf:=K3.out.2.2.fz 0;clear ho3 hg3));exact Tta55
    ·have hd:decide (y.R.z=x.R.z)=false:=by simp[he]
     rw[hd]at HEQ;rw[if_neg he,hd]at hst;have HN:=Yy (show V=(acc.map (·.R)++[y.R])++rpL x.R dn ((d.xs.drop (k+1)).map (·.R)) by rw[hV,hst];simp);clear hl he hd hst hV;go_wp2_with fail;clear c00;refine wp_region_G _ (by kernel_rfl) ?_;refine YGa 0 (some 19) rfl ?_;refine YGd 1 (some 20) (.agg (bvals x.R.z)) rfl (fun w9 hSw=>by exact exec_load_by 31 _ rfl ⟨w.heap.size+1,0,none⟩ rfl (J.out.1.2.2.below hSw J.out.1.2.2.lt).load_id) ?_;refine YGa 2 (some 21) rfl ?_;refine YGb 3 (some 22) rfl (fun w9 hSw=>(J.out.1.2.1.below hSw J.out.1.2.1.lt).c0) ?_;refine YGa 4 (some 23) rfl ?_;refine YGb 5 (some 24) rfl (fun w9 hSw=>IX.out w9) ?_;refine YGa 6 (some 25) rfl ?_;refine YGd 7 (some 26) (.agg (bvals y.R.z)) rfl (fun w9 hSw=>by exact exec_load_by 31 _ rfl ⟨b0,off+k*19,none⟩ rfl (HREC.out.same ((J.out.1.1.trans (hSw.mono J.out.1.1.size)).block b0 hb0)).load_id) ?_;refine YGk 8 (some 27) rfl HLS.out ?_;refine YGa 9 (some 8) rfl ?_;refine wpG_done (by kernel_rfl) ?_ _;intro w6 hSw _;have J6:=Yy (J.out.below hSw);clear hSw;go_wp2_with fail;refine wp_region_G _ (by kernel_rfl) ?_;refine YGa 0 (some 40) rfl ?_;refine YGb 1 (some 41) rfl (fun w9 hSw=>(J6.out.1.2.1.below hSw J6.out.1.2.1.lt).c0) ?_;refine YGa 2 (some 42) rfl ?_;refine YGb 3 (some 43) rfl (fun w9 hSw=>IX.out w9) ?_;refine YGa 4 (some 44) rfl ?_
     refine YGd 5 (some 45) (.agg (bvals y.R.z)) rfl (fun w9 hSw=>by exact exec_load_by 31 _ rfl ⟨b0,off+k*19,none⟩ rfl (HREC.out.same ((J6.out.1.1.trans (hSw.mono J6.out.1.1.size)).block b0 hb0)).load_id) ?_;refine YGa 6 (some 46) rfl ?_;refine YGd 7 (some 47) (.agg (bvals x.R.z)) rfl (fun w9 hSw=>by exact exec_load_by 31 _ rfl ⟨w.heap.size+1,0,none⟩ rfl (J6.out.1.2.2.below hSw J6.out.1.2.2.lt).load_id) ?_;refine YGb 8 (some 48) rfl (fun w9 hSw=>HEQ.out w9) ?_;refine wpG_done (by kernel_rfl) ?_ _;intro w10 hSw _;have J10:=Yy (J6.out.below hSw);clear hSw;go_wp2_with fail;refine wp_region_held_drew (S:=fun w'=>SP w d x w') (by kernel_rfl) J10.out.drew.1 (fun hS=>?_);have JD:=Yy J10.out.drew;generalize World.drew _=X at *;refine YHd 0 (some 65) _ rfl hS (fun w9 hSw=>by (try dsimp only at hSw);go_simp;try with_reducible rfl) ?_;refine YHd 2 (some 67) _ rfl hS (fun w9 hSw=>by (try dsimp only at hSw);go_simp;try with_reducible rfl) ?_;refine YHd 3 (some 68) _ rfl hS (fun w9 hSw=>by (try dsimp only at hSw);have q0:=hSw.2.1.c0;go_simp;try with_reducible rfl) ?_;refine YHd 4 (some 69) _ rfl hS (fun w9 hSw=>by (try dsimp only at hSw);go_simp;try with_reducible rfl) ?_;refine YHd 5 (some 70) _ rfl hS (fun w9 hSw=>by (try dsimp only at hSw);have q0:=IX.out w9;go_simp;try with_reducible rfl) ?_;refine YHd 6 (some 71) (.agg y.cells) rfl hS (fun w9 hSw=>by (try dsimp only at hSw);exact exec_load_by 36 _ rfl ⟨b0,off+k*19,none⟩ rfl (HREC.out.same (hSw.1.block b0 hb0)).load) ?_
     refine wpAnyH_ready (rs:=[1,7]) (by kernel_rfl) (by simp) (AllReadyH.cons (o:=⟨some 66,_,_,_,_,_⟩) rfl (fun K hK=>?_) (AllReadyH.cons (o:=⟨some 72,_,_,_,_,_⟩) rfl (fun K hK=>?_) AllReadyH.nil))
     ·have g0:=JD.out.2.2.1.c0;go_simp;refine hK.out _ _ JD.out.1 (fun hS=>?_);clear hK K g0
      try simp only[Act.put,Z2,Z3,Z4]
      refine wpAnyH_ready (rs:=[7]) (by kernel_rfl) (by simp) (AllReadyH.cons (o:=⟨some 72,_,_,_,_,_⟩) rfl (fun K hK=>?_) AllReadyH.nil);go_simp;refine (rown_any y _ (HVY.out.below JD.out.1.1 Nl) HLY.out).mono ?_;rintro e X1 ⟨A0,c0,rfl,hyv,hyt,hb0'⟩;have J1:=Yy (JD.out.below hb0');have J2:=Yy (J1.out.alloc (.cells (RcA.cells ⟨y.R,A0,c0⟩) 36));have YZ:=Yy hyv.len;have YV:=Yy (hyv.below ((Below.refl _ _).alloc Nl (.cells (RcA.cells ⟨y.R,A0,c0⟩) 36)) Nl);have YT:=Yy (hyt.below ((Below.refl _ _).alloc Nl (.cells (RcA.cells ⟨y.R,A0,c0⟩) 36)));clear hyv hyt;refine hK.out _ _ J1.out.1 (fun hS=>?_);clear hK K hb0';exact Tta9
     ·go_simp;refine (rown_any y _ (HVY.out.below JD.out.1.1 Nl) HLY.out).mono ?_;rintro e X1 ⟨A0,c0,rfl,hyv,hyt,hb0'⟩;have J1:=Yy (JD.out.below hb0');have J2:=Yy (J1.out.alloc (.cells (RcA.cells ⟨y.R,A0,c0⟩) 36));have YZ:=Yy hyv.len;have YV:=Yy (hyv.below ((Below.refl _ _).alloc Nl (.cells (RcA.cells ⟨y.R,A0,c0⟩) 36)) Nl);have YT:=Yy (hyt.below ((Below.refl _ _).alloc Nl (.cells (RcA.cells ⟨y.R,A0,c0⟩) 36)));clear hyv hyt;refine hK.out _ _ J1.out.1 (fun hS=>?_);clear hK K hb0'
      try simp only[Act.put,Z2,Z3,Z4]
      refine wpAnyH_ready (rs:=[1,8]) (by kernel_rfl) (by simp) (AllReadyH.cons (o:=⟨some 66,_,_,_,_,_⟩) rfl (fun K hK=>?_) (AllReadyH.cons (o:=⟨some 73,_,_,_,_,_⟩) rfl (fun K hK=>?_) AllReadyH.nil))
      ·have g0:=J1.out.2.2.1.c0;go_simp;refine hK.out _ _ J1.out.1 (fun hS=>?_);clear hK K g0;exact Tta9
      ·refine step_bslice rfl (.tmp 72) rfl ⟨y.R,A0,c0⟩ rfl YZ.out ?_;refine hK.out _ _ J2.out.1 (fun hS=>?_);clear hK K
       try simp only[Act.put,Z2,Z3,Z4]
       refine wpAnyH_ready (rs:=[1]) (by kernel_rfl) (by simp) (AllReadyH.cons (o:=⟨some 66,_,_,_,_,_⟩) rfl (fun K hK=>?_) AllReadyH.nil);have g0:=J2.out.2.2.1.c0;go_simp;refine hK.out _ _ J2.out.1 (fun hS=>?_);clear hK K g0;exact Ttb4
   ·rw[hl]at HLS hst;have he:¬ y.R.z=x.R.z:=fun e=>il_ne hl e.symm;have hd:decide (y.R.z=x.R.z)=false:=by simp[he]
    rw[hd]at HEQ;rw[if_neg he,hd]at hst;cases dn
    ·have HN:=Yy (show V=((acc.map (·.R)++[x.R])++[y.R])++rpL x.R true ((d.xs.drop (k+1)).map (·.R)) by rw[hV,hst];simp);clear hl he hd hst hV;go_wp2_with fail;clear c00;refine wp_region_G _ (by kernel_rfl) ?_;refine YGa 0 (some 19) rfl ?_;refine YGd 1 (some 20) (.agg (bvals x.R.z)) rfl (fun w9 hSw=>by exact exec_load_by 31 _ rfl ⟨w.heap.size+1,0,none⟩ rfl (J.out.1.2.2.below hSw J.out.1.2.2.lt).load_id) ?_;refine YGa 2 (some 21) rfl ?_;refine YGb 3 (some 22) rfl (fun w9 hSw=>(J.out.1.2.1.below hSw J.out.1.2.1.lt).c0) ?_;refine YGa 4 (some 23) rfl ?_;refine YGb 5 (some 24) rfl (fun w9 hSw=>IX.out w9) ?_;refine YGa 6 (some 25) rfl ?_;refine YGd 7 (some 26) (.agg (bvals y.R.z)) rfl (fun w9 hSw=>by exact exec_load_by 31 _ rfl ⟨b0,off+k*19,none⟩ rfl (HREC.out.same ((J.out.1.1.trans (hSw.mono J.out.1.1.size)).block b0 hb0)).load_id) ?_;refine YGk 8 (some 27) rfl HLS.out ?_;refine YGa 9 (some 8) rfl ?_;refine wpG_done (by kernel_rfl) ?_ _;intro w6 hSw _;have J6:=Yy (J.out.below hSw);clear hSw;go_wp2_with fail;refine wp_region_held_drew (S:=fun w'=>SP w d x w') (by kernel_rfl) J6.out.drew.1 (fun hS=>?_);have JD:=Yy J6.out.drew;generalize World.drew _=X at *;refine YHd 0 (some 33) _ rfl hS (fun w9 hSw=>by (try dsimp only at hSw);go_simp;try with_reducible rfl) ?_;refine YHd 2 (some 35) (.agg x.cells) rfl hS (fun w9 hSw=>by (try dsimp only at hSw);exact exec_load_by 36 _ rfl ⟨w.heap.size+1,0,none⟩ rfl hSw.2.2.load) ?_
     refine wpAnyH_ready (rs:=[1,3]) (by kernel_rfl) (by simp) (AllReadyH.cons (o:=⟨some 34,_,_,_,_,_⟩) rfl (fun K hK=>?_) (AllReadyH.cons (o:=⟨some 36,_,_,_,_,_⟩) rfl (fun K hK=>?_) AllReadyH.nil))
     ·have g0:=JD.out.2.2.1.c0;go_simp;refine hK.out _ _ JD.out.1 (fun hS=>?_);clear hK K g0
      try simp only[Act.put,Z2,Z3,Z4]
      refine wpAnyH_ready (rs:=[3]) (by kernel_rfl) (by simp) (AllReadyH.cons (o:=⟨some 36,_,_,_,_,_⟩) rfl (fun K hK=>?_) AllReadyH.nil);go_simp;refine (rown_any x _ (HX.out.below JD.out.1.1 Nl) HXL.out).mono ?_;rintro e X1 ⟨A0,c0,rfl,hyv,hyt,hb0'⟩;have J1:=Yy (JD.out.below hb0');have J2:=Yy (J1.out.alloc (.cells (RcA.cells ⟨x.R,A0,c0⟩) 36));have YZ:=Yy hyv.len;have YV:=Yy (hyv.below ((Below.refl _ _).alloc Nl (.cells (RcA.cells ⟨x.R,A0,c0⟩) 36)) Nl);have YT:=Yy (hyt.below ((Below.refl _ _).alloc Nl (.cells (RcA.cells ⟨x.R,A0,c0⟩) 36)));clear hyv hyt;refine hK.out _ _ J1.out.1 (fun hS=>?_);clear hK K hb0';exact Tta0
     ·go_simp;refine (rown_any x _ (HX.out.below JD.out.1.1 Nl) HXL.out).mono ?_;rintro e X1 ⟨A0,c0,rfl,hyv,hyt,hb0'⟩;have J1:=Yy (JD.out.below hb0');have J2:=Yy (J1.out.alloc (.cells (RcA.cells ⟨x.R,A0,c0⟩) 36));have YZ:=Yy hyv.len;have YV:=Yy (hyv.below ((Below.refl _ _).alloc Nl (.cells (RcA.cells ⟨x.R,A0,c0⟩) 36)) Nl);have YT:=Yy (hyt.below ((Below.refl _ _).alloc Nl (.cells (RcA.cells ⟨x.R,A0,c0⟩) 36)));clear hyv hyt;refine hK.out _ _ J1.out.1 (fun hS=>?_);clear hK K hb0'
      try simp only[Act.put,Z2,Z3,Z4]
      refine wpAnyH_ready (rs:=[1,4]) (by kernel_rfl) (by simp) (AllReadyH.cons (o:=⟨some 34,_,_,_,_,_⟩) rfl (fun K hK=>?_) (AllReadyH.cons (o:=⟨some 37,_,_,_,_,_⟩) rfl (fun K hK=>?_) AllReadyH.nil))
      ·have g0:=J1.out.2.2.1.c0;go_simp;refine hK.out _ _ J1.out.1 (fun hS=>?_);clear hK K g0;exact Tta0
      ·refine step_bslice rfl (.tmp 36) rfl ⟨x.R,A0,c0⟩ rfl YZ.out ?_;refine hK.out _ _ J2.out.1 (fun hS=>?_);clear hK K
       try simp only[Act.put,Z2,Z3,Z4]
       refine wpAnyH_ready (rs:=[1]) (by kernel_rfl) (by simp) (AllReadyH.cons (o:=⟨some 34,_,_,_,_,_⟩) rfl (fun K hK=>?_) AllReadyH.nil);have g0:=J2.out.2.2.1.c0;go_simp;refine hK.out _ _ J2.out.1 (fun hS=>?_);clear hK K g0
       try simp only[Act.put,Z2,Z3,Z4]
       refine wpAnyH_ready (rs:=[5]) (by kernel_rfl) (by simp) (AllReadyH.cons (o:=⟨some 38,_,_,_,_,_⟩) rfl (fun K hK=>?_) AllReadyH.nil);refine step_append_rec (o:=⟨some 38,_,_,_,_,_⟩) rfl _ _ rfl _ v acc ⟨x.R,A0,c0⟩ rfl J2.out.2.2.2.1 (by have:=HAL.out;(try simp only[List.length_append,List.length_cons,List.length_nil]);omega) YZ.out rfl J2.out.2.2.2.2.2 ?_;intro v3 X3 ho3 hg3;obtain⟨g13,cap13,rfl⟩:=ownsRow_succ ho3;have K3:=Yy (J2.out.grow hg3);have J4:=Yy (J2.out.step YV.out YT.out ho3 hg3);clear ho3 hg3;refine hK.out _ _ K3.out.1 (fun hS=>?_);clear hK K
       try simp only[Act.put,Z2,Z3,Z4]
       refine YHd 6 (some 39) _ rfl hS (fun w9 hSw=>by (try dsimp only at hSw);go_simp;try with_reducible rfl) ?_;refine wpAnyH_ready (rs:=[7]) (by kernel_rfl) (by simp) (AllReadyH.cons (o:=⟨none,_,_,_,_,_⟩) rfl (fun K hK=>?_) AllReadyH.nil);have g0:=K3.out.2.2.c0;have gf:=K3.out.2.2.fz 0;go_simp;refine hK.out _ _ J4.out.1 (fun hS=>?_);clear hK K g0 gf K3 J2 J1 YV YT YZ
       try simp only[Act.put,Z2,Z3,Z4]
       refine wpAnyH_done (by kernel_rfl) ?_ _;generalize hv4:(Value.slice (some ⟨g13,0,none⟩) (acc.length+1) cap13)=v4 at *;clear hv4;obtain⟨acc2,hacc2⟩:∃ a,a=acc++[(⟨x.R,A0,c0⟩:RcA)]:=⟨_,rfl⟩;rw[← hacc2]at J4;have HN:=Yy (show V=(acc2.map (·.R)++[y.R])++rpL x.R true ((d.xs.drop (k+1)).map (·.R)) by rw[HN.out,hacc2];simp);have HAK:=Yy (show acc2.length≤2*k+1 by have:=HAK.out;rw[hacc2,List.length_append];simp only[List.length_cons,List.length_nil];omega);have HAL:=Yy (show acc2.length≤3000 by have:=HAL.out;rw[hacc2,List.length_append];simp only[List.length_cons,List.length_nil];omega);clear hacc2;go_wp2_with fail;refine wp_region_G _ (by kernel_rfl) ?_;refine YGa 0 (some 40) rfl ?_;refine YGb 1 (some 41) rfl (fun w9 hSw=>(J4.out.1.2.1.below hSw J4.out.1.2.1.lt).c0) ?_;refine YGa 2 (some 42) rfl ?_;refine YGb 3 (some 43) rfl (fun w9 hSw=>IX.out w9) ?_;refine YGa 4 (some 44) rfl ?_;refine YGd 5 (some 45) (.agg (bvals y.R.z)) rfl (fun w9 hSw=>by exact exec_load_by 31 _ rfl ⟨b0,off+k*19,none⟩ rfl (HREC.out.same ((J4.out.1.1.trans (hSw.mono J4.out.1.1.size)).block b0 hb0)).load_id) ?_;refine YGa 6 (some 46) rfl ?_;refine YGd 7 (some 47) (.agg (bvals x.R.z)) rfl (fun w9 hSw=>by exact exec_load_by 31 _ rfl ⟨w.heap.size+1,0,none⟩ rfl (J4.out.1.2.2.below hSw J4.out.1.2.2.lt).load_id) ?_;refine YGb 8 (some 48) rfl (fun w9 hSw=>HEQ.out w9) ?_;refine wpG_done (by kernel_rfl) ?_ _;intro w10 hSw _;have J10:=Yy (J4.out.below hSw);clear hSw;go_wp2_with fail;clear J4
       refine wp_region_held_drew (S:=fun w'=>SP w d x w') (by kernel_rfl) J10.out.drew.1 (fun hS=>?_);have JD:=Yy J10.out.drew;generalize World.drew _=X at *;refine YHd 0 (some 65) _ rfl hS (fun w9 hSw=>by (try dsimp only at hSw);go_simp;try with_reducible rfl) ?_;refine YHd 2 (some 67) _ rfl hS (fun w9 hSw=>by (try dsimp only at hSw);go_simp;try with_reducible rfl) ?_;refine YHd 3 (some 68) _ rfl hS (fun w9 hSw=>by (try dsimp only at hSw);have q0:=hSw.2.1.c0;go_simp;try with_reducible rfl) ?_;refine YHd 4 (some 69) _ rfl hS (fun w9 hSw=>by (try dsimp only at hSw);go_simp;try with_reducible rfl) ?_;refine YHd 5 (some 70) _ rfl hS (fun w9 hSw=>by (try dsimp only at hSw);have q0:=IX.out w9;go_simp;try with_reducible rfl) ?_;refine YHd 6 (some 71) (.agg y.cells) rfl hS (fun w9 hSw=>by (try dsimp only at hSw);exact exec_load_by 36 _ rfl ⟨b0,off+k*19,none⟩ rfl (HREC.out.same (hSw.1.block b0 hb0)).load) ?_;refine wpAnyH_ready (rs:=[1,7]) (by kernel_rfl) (by simp) (AllReadyH.cons (o:=⟨some 66,_,_,_,_,_⟩) rfl (fun K hK=>?_) (AllReadyH.cons (o:=⟨some 72,_,_,_,_,_⟩) rfl (fun K hK=>?_) AllReadyH.nil))
       ·have g0:=JD.out.2.2.1.c0;go_simp;refine hK.out _ _ JD.out.1 (fun hS=>?_);clear hK K g0
        try simp only[Act.put,Z2,Z3,Z4]
        refine wpAnyH_ready (rs:=[7]) (by kernel_rfl) (by simp) (AllReadyH.cons (o:=⟨some 72,_,_,_,_,_⟩) rfl (fun K hK=>?_) AllReadyH.nil);go_simp;refine (rown_any y _ (HVY.out.below JD.out.1.1 Nl) HLY.out).mono ?_;rintro e X1 ⟨A1,c1,rfl,hyv,hyt,hb0'⟩;have J1:=Yy (JD.out.below hb0');have J2:=Yy (J1.out.alloc (.cells (RcA.cells ⟨y.R,A1,c1⟩) 36));have YZ:=Yy hyv.len;have YV:=Yy (hyv.below ((Below.refl _ _).alloc Nl (.cells (RcA.cells ⟨y.R,A1,c1⟩) 36)) Nl);have YT:=Yy (hyt.below ((Below.refl _ _).alloc Nl (.cells (RcA.cells ⟨y.R,A1,c1⟩) 36)));clear hyv hyt;refine hK.out _ _ J1.out.1 (fun hS=>?_);clear hK K hb0';exact Tta7
       ·go_simp;refine (rown_any y _ (HVY.out.below JD.out.1.1 Nl) HLY.out).mono ?_;rintro e X1 ⟨A1,c1,rfl,hyv,hyt,hb0'⟩;have J1:=Yy (JD.out.below hb0');have J2:=Yy (J1.out.alloc (.cells (RcA.cells ⟨y.R,A1,c1⟩) 36));have YZ:=Yy hyv.len;have YV:=Yy (hyv.below ((Below.refl _ _).alloc Nl (.cells (RcA.cells ⟨y.R,A1,c1⟩) 36)) Nl);have YT:=Yy (hyt.below ((Below.refl _ _).alloc Nl (.cells (RcA.cells ⟨y.R,A1,c1⟩) 36)));clear hyv hyt;refine hK.out _ _ J1.out.1 (fun hS=>?_);clear hK K hb0'
        try simp only[Act.put,Z2,Z3,Z4]
        refine wpAnyH_ready (rs:=[1,8]) (by kernel_rfl) (by simp) (AllReadyH.cons (o:=⟨some 66,_,_,_,_,_⟩) rfl (fun K hK=>?_) (AllReadyH.cons (o:=⟨some 73,_,_,_,_,_⟩) rfl (fun K hK=>?_) AllReadyH.nil))
        ·have g0:=J1.out.2.2.1.c0;go_simp;refine hK.out _ _ J1.out.1 (fun hS=>?_);clear hK K g0;exact Tta7
        ·exact Ttb1
    ·have HN:=Yy (show V=(acc.map (·.R)++[y.R])++rpL x.R true ((d.xs.drop (k+1)).map (·.R)) by rw[hV,hst];simp);clear hl he hd hst hV;go_wp2_with fail;clear c00;refine wp_region_G _ (by kernel_rfl) ?_;refine YGa 0 (some 19) rfl ?_;refine YGd 1 (some 20) (.agg (bvals x.R.z)) rfl (fun w9 hSw=>by exact exec_load_by 31 _ rfl ⟨w.heap.size+1,0,none⟩ rfl (J.out.1.2.2.below hSw J.out.1.2.2.lt).load_id) ?_;refine YGa 2 (some 21) rfl ?_;refine YGb 3 (some 22) rfl (fun w9 hSw=>(J.out.1.2.1.below hSw J.out.1.2.1.lt).c0) ?_;refine YGa 4 (some 23) rfl ?_;refine YGb 5 (some 24) rfl (fun w9 hSw=>IX.out w9) ?_;refine YGa 6 (some 25) rfl ?_;refine YGd 7 (some 26) (.agg (bvals y.R.z)) rfl (fun w9 hSw=>by exact exec_load_by 31 _ rfl ⟨b0,off+k*19,none⟩ rfl (HREC.out.same ((J.out.1.1.trans (hSw.mono J.out.1.1.size)).block b0 hb0)).load_id) ?_;refine YGk 8 (some 27) rfl HLS.out ?_;refine YGa 9 (some 8) rfl ?_;refine wpG_done (by kernel_rfl) ?_ _;intro w6 hSw _;have J6:=Yy (J.out.below hSw);clear hSw;go_wp2_with fail;refine wp_region_G _ (by kernel_rfl) ?_;refine YGa 0 (some 40) rfl ?_;refine YGb 1 (some 41) rfl (fun w9 hSw=>(J6.out.1.2.1.below hSw J6.out.1.2.1.lt).c0) ?_;refine YGa 2 (some 42) rfl ?_;refine YGb 3 (some 43) rfl (fun w9 hSw=>IX.out w9) ?_;refine YGa 4 (some 44) rfl ?_;refine YGd 5 (some 45) (.agg (bvals y.R.z)) rfl (fun w9 hSw=>by exact exec_load_by 31 _ rfl ⟨b0,off+k*19,none⟩ rfl (HREC.out.same ((J6.out.1.1.trans (hSw.mono J6.out.1.1.size)).block b0 hb0)).load_id) ?_
     refine YGa 6 (some 46) rfl ?_;refine YGd 7 (some 47) (.agg (bvals x.R.z)) rfl (fun w9 hSw=>by exact exec_load_by 31 _ rfl ⟨w.heap.size+1,0,none⟩ rfl (J6.out.1.2.2.below hSw J6.out.1.2.2.lt).load_id) ?_;refine YGb 8 (some 48) rfl (fun w9 hSw=>HEQ.out w9) ?_;refine wpG_done (by kernel_rfl) ?_ _;intro w10 hSw _;have J10:=Yy (J6.out.below hSw);clear hSw;go_wp2_with fail;refine wp_region_held_drew (S:=fun w'=>SP w d x w') (by kernel_rfl) J10.out.drew.1 (fun hS=>?_);have JD:=Yy J10.out.drew;generalize World.drew _=X at *;refine YHd 0 (some 65) _ rfl hS (fun w9 hSw=>by (try dsimp only at hSw);go_simp;try with_reducible rfl) ?_;refine YHd 2 (some 67) _ rfl hS (fun w9 hSw=>by (try dsimp only at hSw);go_simp;try with_reducible rfl) ?_;refine YHd 3 (some 68) _ rfl hS (fun w9 hSw=>by (try dsimp only at hSw);have q0:=hSw.2.1.c0;go_simp;try with_reducible rfl) ?_;refine YHd 4 (some 69) _ rfl hS (fun w9 hSw=>by (try dsimp only at hSw);go_simp;try with_reducible rfl) ?_;refine YHd 5 (some 70) _ rfl hS (fun w9 hSw=>by (try dsimp only at hSw);have q0:=IX.out w9;go_simp;try with_reducible rfl) ?_;refine YHd 6 (some 71) (.agg y.cells) rfl hS (fun w9 hSw=>by (try dsimp only at hSw);exact exec_load_by 36 _ rfl ⟨b0,off+k*19,none⟩ rfl (HREC.out.same (hSw.1.block b0 hb0)).load) ?_;refine wpAnyH_ready (rs:=[1,7]) (by kernel_rfl) (by simp) (AllReadyH.cons (o:=⟨some 66,_,_,_,_,_⟩) rfl (fun K hK=>?_) (AllReadyH.cons (o:=⟨some 72,_,_,_,_,_⟩) rfl (fun K hK=>?_) AllReadyH.nil))
     ·have g0:=JD.out.2.2.1.c0;go_simp;refine hK.out _ _ JD.out.1 (fun hS=>?_);clear hK K g0
      try simp only[Act.put,Z2,Z3,Z4]
      refine wpAnyH_ready (rs:=[7]) (by kernel_rfl) (by simp) (AllReadyH.cons (o:=⟨some 72,_,_,_,_,_⟩) rfl (fun K hK=>?_) AllReadyH.nil);go_simp;refine (rown_any y _ (HVY.out.below JD.out.1.1 Nl) HLY.out).mono ?_;rintro e X1 ⟨A0,c0,rfl,hyv,hyt,hb0'⟩;have J1:=Yy (JD.out.below hb0');have J2:=Yy (J1.out.alloc (.cells (RcA.cells ⟨y.R,A0,c0⟩) 36));have YZ:=Yy hyv.len;have YV:=Yy (hyv.below ((Below.refl _ _).alloc Nl (.cells (RcA.cells ⟨y.R,A0,c0⟩) 36)) Nl);have YT:=Yy (hyt.below ((Below.refl _ _).alloc Nl (.cells (RcA.cells ⟨y.R,A0,c0⟩) 36)));clear hyv hyt;refine hK.out _ _ J1.out.1 (fun hS=>?_);clear hK K hb0';exact Tta8
     ·go_simp;refine (rown_any y _ (HVY.out.below JD.out.1.1 Nl) HLY.out).mono ?_;rintro e X1 ⟨A0,c0,rfl,hyv,hyt,hb0'⟩;have J1:=Yy (JD.out.below hb0');have J2:=Yy (J1.out.alloc (.cells (RcA.cells ⟨y.R,A0,c0⟩) 36));have YZ:=Yy hyv.len;have YV:=Yy (hyv.below ((Below.refl _ _).alloc Nl (.cells (RcA.cells ⟨y.R,A0,c0⟩) 36)) Nl);have YT:=Yy (hyt.below ((Below.refl _ _).alloc Nl (.cells (RcA.cells ⟨y.R,A0,c0⟩) 36)));clear hyv hyt;refine hK.out _ _ J1.out.1 (fun hS=>?_);clear hK K hb0'
      try simp only[Act.put,Z2,Z3,Z4]
      refine wpAnyH_ready (rs:=[1,8]) (by kernel_rfl) (by simp) (AllReadyH.cons (o:=⟨some 66,_,_,_,_,_⟩) rfl (fun K hK=>?_) (AllReadyH.cons (o:=⟨some 73,_,_,_,_,_⟩) rfl (fun K hK=>?_) AllReadyH.nil))
      ·have g0:=J1.out.2.2.1.c0;go_simp;refine hK.out _ _ J1.out.1 (fun hS=>?_);clear hK K g0;exact Tta8
      ·refine step_bslice rfl (.tmp 72) rfl ⟨y.R,A0,c0⟩ rfl YZ.out ?_;refine hK.out _ _ J2.out.1 (fun hS=>?_);clear hK K
       try simp only[Act.put,Z2,Z3,Z4]
       refine wpAnyH_ready (rs:=[1]) (by kernel_rfl) (by simp) (AllReadyH.cons (o:=⟨some 66,_,_,_,_,_⟩) rfl (fun K hK=>?_) AllReadyH.nil);have g0:=J2.out.2.2.1.c0;go_simp;refine hK.out _ _ J2.out.1 (fun hS=>?_);clear hK K g0;exact Ttb3
  ·obtain rfl:k=d.xs.length:=by omega
   have t1:¬ (d.xs.length:Int)<(d.xs.length:Int):=by omega
   rw[List.drop_length,List.map_nil,rpL]at hV;clear hJ hal;cases dn
   ·have HN:=Yy (show V=acc.map (·.R)++[x.R] by rw[hV];simp);clear hV;go_wp2_with fail;clear c00;refine wp_region_held_drew (S:=fun w'=>SP w d x w') (by kernel_rfl) J.out.drew.1 (fun hS=>?_);have JD:=Yy J.out.drew;generalize World.drew _=X at *;refine YHd 0 (some 78) _ rfl hS (fun w9 hSw=>by (try dsimp only at hSw);go_simp;try with_reducible rfl) ?_;refine YHd 2 (some 80) (.agg x.cells) rfl hS (fun w9 hSw=>by (try dsimp only at hSw);exact exec_load_by 36 _ rfl ⟨w.heap.size+1,0,none⟩ rfl hSw.2.2.load) ?_;refine wpAnyH_ready (rs:=[1,3]) (by kernel_rfl) (by simp) (AllReadyH.cons (o:=⟨some 79,_,_,_,_,_⟩) rfl (fun K hK=>?_) (AllReadyH.cons (o:=⟨some 81,_,_,_,_,_⟩) rfl (fun K hK=>?_) AllReadyH.nil))
    ·have g0:=JD.out.2.2.1.c0;go_simp;refine hK.out _ _ JD.out.1 (fun hS=>?_);clear hK K g0
     try simp only[Act.put,Z2,Z3,Z4]
     refine wpAnyH_ready (rs:=[3]) (by kernel_rfl) (by simp) (AllReadyH.cons (o:=⟨some 81,_,_,_,_,_⟩) rfl (fun K hK=>?_) AllReadyH.nil);go_simp;refine (rown_any x _ (HX.out.below JD.out.1.1 Nl) HXL.out).mono ?_;rintro e X1 ⟨A0,c0,rfl,hyv,hyt,hb0'⟩;have J1:=Yy (JD.out.below hb0');have J2:=Yy (J1.out.alloc (.cells (RcA.cells ⟨x.R,A0,c0⟩) 36));have YZ:=Yy hyv.len;have YV:=Yy (hyv.below ((Below.refl _ _).alloc Nl (.cells (RcA.cells ⟨x.R,A0,c0⟩) 36)) Nl);have YT:=Yy (hyt.below ((Below.refl _ _).alloc Nl (.cells (RcA.cells ⟨x.R,A0,c0⟩) 36)));clear hyv hyt;refine hK.out _ _ J1.out.1 (fun hS=>?_);clear hK K hb0';exact Tta6
    ·go_simp;refine (rown_any x _ (HX.out.below JD.out.1.1 Nl) HXL.out).mono ?_;rintro e X1 ⟨A0,c0,rfl,hyv,hyt,hb0'⟩;have J1:=Yy (JD.out.below hb0');have J2:=Yy (J1.out.alloc (.cells (RcA.cells ⟨x.R,A0,c0⟩) 36));have YZ:=Yy hyv.len;have YV:=Yy (hyv.below ((Below.refl _ _).alloc Nl (.cells (RcA.cells ⟨x.R,A0,c0⟩) 36)) Nl);have YT:=Yy (hyt.below ((Below.refl _ _).alloc Nl (.cells (RcA.cells ⟨x.R,A0,c0⟩) 36)));clear hyv hyt;refine hK.out _ _ J1.out.1 (fun hS=>?_);clear hK K hb0'
     try simp only[Act.put,Z2,Z3,Z4]
     refine wpAnyH_ready (rs:=[1,4]) (by kernel_rfl) (by simp) (AllReadyH.cons (o:=⟨some 79,_,_,_,_,_⟩) rfl (fun K hK=>?_) (AllReadyH.cons (o:=⟨some 82,_,_,_,_,_⟩) rfl (fun K hK=>?_) AllReadyH.nil))
     ·have g0:=J1.out.2.2.1.c0;go_simp;refine hK.out _ _ J1.out.1 (fun hS=>?_);clear hK K g0;exact Tta6
     ·refine step_bslice rfl (.tmp 81) rfl ⟨x.R,A0,c0⟩ rfl YZ.out ?_;refine hK.out _ _ J2.out.1 (fun hS=>?_);clear hK K
      try simp only[Act.put,Z2,Z3,Z4]
      refine wpAnyH_ready (rs:=[1]) (by kernel_rfl) (by simp) (AllReadyH.cons (o:=⟨some 79,_,_,_,_,_⟩) rfl (fun K hK=>?_) AllReadyH.nil);have g0:=J2.out.2.2.1.c0;go_simp;refine hK.out _ _ J2.out.1 (fun hS=>?_);clear hK K g0;exact Ttb0
   ·have HN:=Yy (show V=acc.map (·.R) by rw[hV];simp);clear hV;have J4:=Yy J.out;clear J;obtain⟨A9,c9,hv9⟩:=own_slice J4.out.2.2.2.1;subst hv9;have JE:=Yy (show PJ w d x (.slice A9 acc.length c9) acc _ from J4.out);clear J4;have LB:=Yy JE.out.2.2.1.load;have EB:=Yy JE.out.2.1;go_wp2_with (first | ((with_reducible refine YyL 24 (.tmp 5) ⟨(w.heap.size+1+1+1),0,none⟩ LB.out ?_ ?_ ?_);rfl;rfl) | ((with_reducible refine wpList_store_oldb (o:=⟨none,.store 24 (.tmp 4) (.tmp 85),_,_,_,_⟩) ?_ (.tmp 4) (.tmp 85) ?_ (w.heap.size+1+1) _ EB.out ?_ (.slice A9 acc.length c9) ?_ ?_ ?_);rfl;rfl;rfl;rfl;rfl;intro w2 hg2 hx2;have G9:=Yy hg2;have X9:=Yy hx2;clear hg2 hx2));refine bodyPost_ret (v:=.agg #[.slice A9 acc.length c9]) ?_ rfl ?_
    ·exact res_bk Tryz.results73 rfl X9.out
    ·exact⟨⟨acc,A9,c9⟩,rfl,by rw[HN.out];unfold Bk.rs;simp,PJ.fin JE.out G9.out,JE.out.1.1.grown G9.out JE.out.1.1.size (fun k e=>by have:=Option.some.inj e;omega)⟩
end
section
open Go.RowKit Go.Shelf WM
theorem bput_len:∀ (bs:List Rc) (r:Rc),(bput bs r).length≤bs.length+1
 | [],r=>Nat.le_refl _
 | x::xs,r=>by
  have:=bput_len xs r;rw[bput]
  split
  ·simp
  ·split<;>simp<;>omega
section
variable {ops:Array Oper} {o:Oper} {a:Act} {K:Act→World→Prop} {Q:Exit→Act→World→Prop} {E:Prop}
theorem step_store_oldb {X:World} (hgd:o.guard=none) (p q:Operand) (hop:o.op=.store 24 p q) (g:Nat) (v:Value) (hb:BoAt X g v) (hx:a.eval p=.pointer (some ⟨g,0,none⟩)) (u:Value) (hy:a.eval q=.agg #[u]) (hu:u.oneCell'=true)
  (hK:∀ w',X.grownBy w' (some g)→BoAt w' g u→K (a.put o.dst undef) w'):if Region.wanted o (yielded ops a.tmps)=true then Oper.wp Tryz.prog o a X K Q else E:=by
 have hw:Region.wanted o (yielded ops a.tmps)=true:=by simp[Region.wanted,hgd]
 rw[if_pos hw];unfold Oper.wp;rw[exec_store_row 24 p q hop g #[u] hx hy 24 _ hb sizeBook rfl (bk_one hu)];exact hK _ (grownBy_setRow X g _) (hb.put u)
theorem step_load {X:World} {P:Program} (hgd:o.guard=none) (ty:TypeId) (x:Operand) (ho:o.op=.load ty x) (ad:Addr) (hx:a.eval x=.pointer (some ad)) (v:Value) (hv:(loadVar ty ad).run P X=.ok v X)
  (h:K (a.put o.dst v) X):if Region.wanted o (yielded ops a.tmps)=true then Oper.wp P o a X K Q else E:=by
 have hw:Region.wanted o (yielded ops a.tmps)=true:=by simp[Region.wanted,hgd]
 rw[if_pos hw];unfold Oper.wp;rw[exec_load_by ty x ho ad hx hv];exact h
end
def SJ (w:World) (a b:Bk) (W:World):Prop:=Below w.heap.size w W∧BoAt W w.heap.size (.slice a.A a.xs.length a.c)∧BoAt W (w.heap.size+1) (.slice b.A b.xs.length b.c)
def JJ (w:World) (a b:Bk) (g:Nat) (d:Bk) (W:World):Prop:=SJ w a b W∧BoAt W (w.heap.size+1+1) (.slice none 0 0)∧BoAt W g (.slice d.A d.xs.length d.c)∧BkAt W d
section
variable {w W W':World} {a b d d':Bk} {g:Nat}
theorem JJ.below (h:JJ w a b g d W) (hb:Below W.heap.size W W'):JJ w a b g d W':=by
 obtain⟨⟨h1,h2,h3⟩,h4,h5,h6⟩:=h;exact⟨⟨h1.trans (hb.mono h1.size),h2.below hb h2.lt,h3.below hb h3.lt⟩,h4.below hb h4.lt,h5.below hb h5.lt,h6.below hb Nl⟩
theorem JJ.drew (h:JJ w a b g d W):JJ w a b g d W.drew:=h.below ((Below.refl _ _).drew)
theorem JJ.put (h:JJ w a b g d W) (hgw:w.heap.size+1+1<g) (hk:BkAt W d') (hg:W.grownBy W' (some g)) (hb:BoAt W' g (.slice d'.A d'.xs.length d'.c)):JJ w a b g d' W':=by
 obtain⟨⟨h1,h2,h3⟩,h4,h5,h6⟩:=h;have ne:∀ {q:Nat},q<w.heap.size+1+1+1→some q≠some g:=fun h e=>by have:=Option.some.inj e;omega
 exact⟨⟨h1.grown hg h1.size (fun g e=>by have:=Option.some.inj e;omega),h2.same (hg.block _ h2.lt (ne (by omega))),h3.same (hg.block _ h3.lt (ne (by omega)))⟩,h4.same (hg.block _ h4.lt (ne (by omega))),hb,hk.kept_bo hg h5⟩
end
theorem fold_snoc (m:List Rc) (r:Rc) (rs:List Rc):(rs++[r]).foldl bput m=bput (rs.foldl bput m) r:=by rw[List.foldl_append];rfl
theorem rs_take (d:Bk) {k:Nat} (hk:k<d.xs.length):d.rs.take (k+1)=d.rs.take k++[(d.xs.getD k rcA0).R]:=by
 unfold Bk.rs;rw[List.take_add_one,List.getElem?_map,List.getD_eq_getElem?_getD,List.getElem?_eq_getElem hk]
 rfl
theorem take_may {bs:List Rc} (h:AllMay bs) (k:Nat):AllMay (bs.take k):=fun x hx=>h x (List.mem_of_mem_take hx)
theorem app_may {a b:List Rc} (h:AllMay a) (k:AllMay b):AllMay (a++b):=fun x hx=>by
 rcases List.mem_append.1 hx with hx | hx
 ·exact h x hx
 ·exact k x hx
theorem may_small {d:Bk} (h:AllMay d.rs):∀ x∈d.xs,x.R.fs.length≤1000:=fun x hx=>by
 have:=rmay_len (h x.R (List.mem_map_of_mem hx));omega
theorem Ttb5 {p:Prop} (h:p:=by
  go_enter Tryz.func38,Tryz.ntmps38;go_wp2_with (first | ((with_reducible refine YyL 24 (.tmp 2) ⟨w.heap.size,0,none⟩ LA.out ?_ ?_ ?_);rfl;rfl));refine HM1.out.mono ?_;rintro e w1 ⟨rfl,hb⟩;have T0:=Yy (S0.out.below hb S0.out.lt);have T1:=Yy (S1.out.below hb S1.out.lt);have T2:=Yy (S2.out.below hb S2.out.lt);have B1:=Yy (HB.out.trans (hb.mono HB.out.size));clear hb;have LB:=Yy T1.out.load;have HM2:=Yy (rbmay_any b w1 (H2.out.below B1.out Nl) HBF.out HBL.out);rw[MB.out]at HM2;go_wp2_with (first | ((with_reducible refine YyL 24 (.tmp 3) ⟨(w.heap.size+1),0,none⟩ LB.out ?_ ?_ ?_);rfl;rfl));refine HM2.out.mono ?_;rintro e w2 ⟨rfl,hb⟩;have U0:=Yy (T0.out.below hb T0.out.lt);have U1:=Yy (T1.out.below hb T1.out.lt);have U2:=Yy (T2.out.below hb T2.out.lt);have B2:=Yy (B1.out.trans (hb.mono B1.out.size));clear hb;go_wp2_with (first | ((with_reducible refine wpList_store_oldb (o:=⟨none,.store 24 (.tmp 4) (.tmp 21),_,_,_,_⟩) ?_ (.tmp 4) (.tmp 21) ?_ (w.heap.size+1+1) _ U2.out ?_ (.slice none 0 0) ?_ ?_ ?_);rfl;rfl;rfl;rfl;rfl;intro w2 hg2 hx2;have G9:=Yy hg2;have X9:=Yy hx2;clear hg2 hx2));refine bodyPost_ret (v:=.tuple #[.agg #[.slice none 0 0],.int .i64 1]) ?_ rfl ?_
  ·exact res_bk2 Tryz.results38 rfl X9.out
  ·exact Ttc2
 ):p:=h
theorem Tta11 {p:Prop} (h:p:=by
  have MB:=Yy mb;clear mb;exact Ttb5
 ):p:=h
theorem Tta37 {p:Prop} (h:p:=by
  intro X2 hg2 hx2;have J2:=Yy (J1.out.put HGG.out HDK.out hg2 hx2);clear hg2 hx2;refine hK.out _ _ J2.out.1 (fun hS=>?_);clear hK K
  try simp only[Act.put]
  refine wpAnyH_done (by kernel_rfl) ?_ _;go_wp2;go_roundw
  case rel=>exact⟨k+1,d',by omega,by go_num,J2.out,HDR.out,HLN.out _ HDR.out⟩
  case measure=>simp[intOf];omega
 ):p:=h
theorem rbjoin_any (a b:Bk) (w:World) (h1:BkAt w a) (h2:BkAt w b) (hal:a.xs.length≤1000) (hbl:b.xs.length≤1000) (hafs:∀ x∈a.xs,x.R.fs.length≤1000) (hbfs:∀ x∈b.xs,x.R.fs.length≤1000):
  Calls Tryz.prog 38 #[.agg #[.slice a.A a.xs.length a.c],.agg #[.slice b.A b.xs.length b.c]] w (BJoinPost w (bjE a.rs b.rs)):=by
 have s0:=((BoAt.new w (.slice a.A a.xs.length a.c)).old (.cells #[.slice b.A b.xs.length b.c] 24)).old (.cells #[.slice none 0 0] 24);have s1:=(BoAt.new (w.alloc (.cells #[.slice a.A a.xs.length a.c] 24)) (.slice b.A b.xs.length b.c)).old (.cells #[.slice none 0 0] 24);rw[World.size_alloc]at s1;have s2:=BoAt.new ((w.alloc (.cells #[.slice a.A a.xs.length a.c] 24)).alloc (.cells #[.slice b.A b.xs.length b.c] 24)) (.slice none 0 0);rw[World.size_alloc,World.size_alloc]at s2;have S0:=Yy s0;have S1:=Yy s1;have S2:=Yy s2;have HB:=Yy ((((Below.refl w.heap.size w).alloc Nl (.cells #[.slice a.A a.xs.length a.c] 24)).alloc (by simp) (.cells #[.slice b.A b.xs.length b.c] 24)).alloc (by simp;omega) (.cells #[.slice none 0 0] 24));have LA:=Yy S0.out.load;have HM1:=Yy (rbmay_any a _ (h1.below HB.out Nl) hafs hal);have H1:=Yy h1;have H2:=Yy h2;have HAL:=Yy hal;have HBL:=Yy hbl;have HAF:=Yy hafs;have HBF:=Yy hbfs;have hz:∀ w:World,(zeroValue 24).run Tryz.prog w=.ok (.agg #[.slice none 0 0]) w:=zeroBook;have hbn:=build_bkP;clear s0 s1 s2 h1 h2 hafs hbfs;cases ma:bmay a.rs
 ·have HE:=Yy (bjE_no (a:=a.rs) (b:=b.rs) (by rw[ma];rfl));rw[ma]at HM1;clear ma;cases mb:bmay b.rs
  ·exact Tta11
  ·exact Tta11
 ·rw[ma]at HM1;cases mb:bmay b.rs
  ·have HE:=Yy (bjE_no (a:=a.rs) (b:=b.rs) (by rw[mb,Bool.and_false]));have MB:=Yy mb;clear ma mb;exact Ttb5
  ·have HMa:=Yy (bmay_iff.1 ma);have HMb:=Yy (bmay_iff.1 mb);have MB:=Yy mb;have HLE:=Yy (fun hl:10<(bjoin a.rs b.rs).length=>bjE_large ma mb hl);have HYE:=Yy (fun hl:(bjoin a.rs b.rs).length≤10=>bjE_yes ma mb hl);have HPM:=Yy (fun k=>take_may HMa.out.2.1 k);have HPM2:=Yy (fun k=>app_may HMa.out.2.1 (take_may HMb.out.2.1 k));have HCa:=Yy H1.out.2.2.2.1;have HCb:=Yy H2.out.2.2.2.1;have HRVa:=Yy (fun i (hi:i<a.xs.length)=>RsAt.rv H1.out hi);have HRVb:=Yy (fun i (hi:i<b.xs.length)=>RsAt.rv H2.out hi);have HCAPa:=Yy (And.intro H1.out.1 H1.out.2.1);have HCAPb:=Yy (And.intro H2.out.1 H2.out.2.1);have HTA:Hid (a.rs.take a.xs.length=a.rs):=Yy (List.take_of_length_le (by unfold Bk.rs;rw[List.length_map];exact Nat.le_refl _));have HTB:Hid (b.rs.take b.xs.length=b.rs):=Yy (List.take_of_length_le (by unfold Bk.rs;rw[List.length_map];exact Nat.le_refl _));have HLA10:Hid (a.xs.length≤10):=Yy (by have:=HMa.out.1;unfold Bk.rs at this;rwa[List.length_map]at this);have HLB10:Hid (b.xs.length≤10):=Yy (by have:=HMb.out.1;unfold Bk.rs at this;rwa[List.length_map]at this);clear ma mb;go_enter Tryz.func38,Tryz.ntmps38;go_wp2_with (first | ((with_reducible refine YyL 24 (.tmp 2) ⟨w.heap.size,0,none⟩ LA.out ?_ ?_ ?_);rfl;rfl));refine HM1.out.mono ?_;rintro e w1 ⟨rfl,hb⟩;have T0:=Yy (S0.out.below hb S0.out.lt);have T1:=Yy (S1.out.below hb S1.out.lt);have T2:=Yy (S2.out.below hb S2.out.lt);have B1:=Yy (HB.out.trans (hb.mono HB.out.size));clear hb;have LB:=Yy T1.out.load
   have HM2:=Yy (rbmay_any b w1 (H2.out.below B1.out Nl) HBF.out HBL.out);rw[MB.out]at HM2;go_wp2_with (first | ((with_reducible refine YyL 24 (.tmp 3) ⟨(w.heap.size+1),0,none⟩ LB.out ?_ ?_ ?_);rfl;rfl));refine HM2.out.mono ?_;rintro e w2 ⟨rfl,hb⟩;have U0:=Yy (T0.out.below hb T0.out.lt);have U1:=Yy (T1.out.below hb T1.out.lt);have U2:=Yy (T2.out.below hb T2.out.lt);have B2:=Yy (B1.out.trans (hb.mono B1.out.size));clear hb;have HGG:=Yy U2.out.lt;have J0:Hid (JJ w a b w2.heap.size bk0 (w2.alloc (.cells #[.slice none 0 0] 24))):=Yy (by
    have hb:=(Below.refl w2.heap.size w2).alloc Nl (.cells #[.slice none 0 0] 24);have hn:=BoAt.new w2 (.slice none 0 0);exact⟨⟨B2.out.trans (hb.mono B2.out.size),U0.out.below hb U0.out.lt,U1.out.below hb U1.out.lt⟩,U2.out.below hb U2.out.lt,hn,BkAt.zero _⟩)
   go_wp2;generalize hg0:w2.heap.size=g0 at *;clear hg0;go_loopw [9] (fun i wq=>∃ (k:Nat) (d:Bk),k≤a.xs.length∧i=.int .i64 k∧JJ w a b g0 d wq∧d.rs=(a.rs.take k).foldl bput []∧d.xs.length≤k) (fun i _=>a.xs.length - (intOf i).toNat)
   case atStart=>exact⟨0,bk0,Nat.zero_le _,rfl,J0.out,rfl,Nat.le_refl _⟩
   case round=>
    obtain⟨k,d,hk,rfl,hJ,hdr,hdl⟩:=hrel;clear J0;have J:=Yy hJ;have c00:=hJ.1.2.1.c0;by_cases hlt:k<a.xs.length
    ·have t1:(k:Int)<(a.xs.length:Int):=by omega
     obtain⟨b0,off,hA,hb0,hcc⟩:=HCa.out (by omega);have HREC:=Yy (hcc k hlt);have hcap:=HCAPa.out;have IX:=Yy (fun w9=>ix_rec b0 off a.xs.length a.c k hlt k rfl w9);rw[← hA]at IX;have hmem:a.xs.getD k rcA0∈a.xs:=by rw[List.getD_eq_getElem?_getD,List.getElem?_eq_getElem hlt];exact List.getElem_mem _
     have HVY:=Yy (HRVa.out k hlt);have hym:(a.xs.getD k rcA0).R.may=true:=HMa.out.2.1 _ (List.mem_map_of_mem hmem);have HLY:=Yy (show (a.xs.getD k rcA0).R.fs.length≤1000 by have:=rmay_len hym;omega);have hpn:rpL (a.xs.getD k rcA0).R false d.rs=(a.rs.take (k+1)).foldl bput []:=by
      rw[rpL_bput hym (by rw[hdr];exact fold_rise rise_nil) (by rw[hdr];exact fold_may (fun x hx=>by cases hx) (HPM.out k)),hdr,← fold_snoc,rs_take _ hlt]
      try simp
     have HPN:=Yy hpn;have hdm:AllMay d.rs:=by rw[hdr];exact (fold_may (fun x hx=>by cases hx) (HPM.out k))
     have HDF:=Yy (may_small hdm);have HDL:=Yy (show d.xs.length≤1000 by have:=HLA10.out;have:=HLB10.out;omega);have HLN:Hid (∀ d':Bk,d'.rs=(a.rs.take (k+1)).foldl bput []→d'.xs.length≤k+1):=Yy (fun d' e=>by
      have e2:=bput_len d.rs (a.xs.getD k rcA0).R;have e3:d'.rs.length≤d.rs.length+1:=by
       rw[e,← hpn,rpL_bput hym (by rw[hdr];exact fold_rise rise_nil) hdm];exact e2
      unfold Bk.rs at e3;rw[List.length_map,List.length_map]at e3;omega)
     generalize a.xs.getD k rcA0=y at *;clear hA hcc hmem hym hpn hdm hdr;go_wp2_with fail;clear c00 hJ;refine wp_region_held_drew (S:=fun w'=>SJ w a b w') (by kernel_rfl) J.out.drew.1 (fun hS=>?_);have JD:=Yy J.out.drew;generalize World.drew _=X at *;refine YHd 1 (some 31) _ rfl hS (fun w9 hSw=>by (try dsimp only at hSw);go_simp;try with_reducible rfl) ?_;refine YHd 2 (some 32) _ rfl hS (fun w9 hSw=>by (try dsimp only at hSw);have q0:=hSw.2.1.c0;go_simp;try with_reducible rfl) ?_;refine YHd 3 (some 33) _ rfl hS (fun w9 hSw=>by (try dsimp only at hSw);go_simp;try with_reducible rfl) ?_;refine YHd 4 (some 34) _ rfl hS (fun w9 hSw=>by (try dsimp only at hSw);have q0:=IX.out w9;go_simp;try with_reducible rfl) ?_;refine YHd 5 (some 35) (.agg y.cells) rfl hS (fun w9 hSw=>by (try dsimp only at hSw);exact exec_load_by 36 _ rfl ⟨b0,off+k*19,none⟩ rfl (HREC.out.same (hSw.1.block b0 hb0)).load) ?_;refine wpAnyH_ready (rs:=[0]) (by kernel_rfl) (by simp) (AllReadyH.cons (o:=⟨some 30,_,_,_,_,_⟩) rfl (fun K hK=>?_) AllReadyH.nil);refine step_load rfl 24 (.tmp 8) rfl ⟨g0,0,none⟩ rfl _ JD.out.2.2.1.load ?_;refine hK.out _ _ JD.out.1 (fun hS=>?_);clear hK K
     try simp only[Act.put,Z2,Z3,Z4]
     refine wpAnyH_ready (rs:=[6]) (by kernel_rfl) (by simp) (AllReadyH.cons (o:=⟨some 36,_,_,_,_,_⟩) rfl (fun K hK=>?_) AllReadyH.nil);go_simp;refine (rbput_any d y X JD.out.2.2.2 (HVY.out.below JD.out.1.1 Nl) (by have:=HDL.out;omega) HDF.out HLY.out).mono ?_;rintro e X1 ⟨d',rfl,hdr,hdk,hb0'⟩;have J1:=Yy (JD.out.below hb0');have HDR:=Yy (hdr.trans HPN.out);have HDK:=Yy hdk;clear hdr hdk hb0';refine hK.out _ _ J1.out.1 (fun hS=>?_);clear hK K
     try simp only[Act.put,Z2,Z3,Z4]
     refine wpAnyH_ready (rs:=[7]) (by kernel_rfl) (by simp) (AllReadyH.cons (o:=⟨none,_,_,_,_,_⟩) rfl (fun K hK=>?_) AllReadyH.nil);refine step_store_oldb rfl (.tmp 8) (.tmp 36) rfl g0 _ J1.out.2.2.1 rfl (.slice d'.A d'.xs.length d'.c) rfl rfl ?_;exact Tta37
    ·obtain rfl:k=a.xs.length:=by omega
     have t1:¬ (a.xs.length:Int)<(a.xs.length:Int):=by omega
     rw[HTA.out]at hdr;have J0:=Yy J.out;have HDR:=Yy hdr;have HDL:=Yy hdl;clear J hJ hdr hdl;go_wp2;clear c00;go_loopw [10] (fun i wq=>∃ (k:Nat) (d:Bk),k≤b.xs.length∧i=.int .i64 k∧JJ w a b g0 d wq∧d.rs=(a.rs++b.rs.take k).foldl bput []∧d.xs.length≤a.xs.length+k) (fun i _=>b.xs.length - (intOf i).toNat)
     case atStart=>exact⟨0,d,Nat.zero_le _,rfl,J0.out,by rw[HDR.out,List.take_zero,List.append_nil],by have:=HDL.out;omega⟩
     case round=>
      obtain⟨k,d,hk,rfl,hJ,hdr,hdl⟩:=hrel;clear J0 HDR HDL;have J:=Yy hJ;have c00:=hJ.1.2.2.c0;by_cases hlt:k<b.xs.length
      ·have t1:(k:Int)<(b.xs.length:Int):=by omega
       obtain⟨b0,off,hA,hb0,hcc⟩:=HCb.out (by omega);have HREC:=Yy (hcc k hlt);have hcap:=HCAPb.out;have IX:=Yy (fun w9=>ix_rec b0 off b.xs.length b.c k hlt k rfl w9);rw[← hA]at IX;have hmem:b.xs.getD k rcA0∈b.xs:=by rw[List.getD_eq_getElem?_getD,List.getElem?_eq_getElem hlt];exact List.getElem_mem _
       have HVY:=Yy (HRVb.out k hlt);have hym:(b.xs.getD k rcA0).R.may=true:=HMb.out.2.1 _ (List.mem_map_of_mem hmem);have HLY:=Yy (show (b.xs.getD k rcA0).R.fs.length≤1000 by have:=rmay_len hym;omega);have hpn:rpL (b.xs.getD k rcA0).R false d.rs=(a.rs++b.rs.take (k+1)).foldl bput []:=by
        rw[rpL_bput hym (by rw[hdr];exact fold_rise rise_nil) (by rw[hdr];exact fold_may (fun x hx=>by cases hx) (HPM2.out k)),hdr,← fold_snoc,rs_take _ hlt]
        try simp
       have HPN:=Yy hpn;have hdm:AllMay d.rs:=by rw[hdr];exact (fold_may (fun x hx=>by cases hx) (HPM2.out k))
       have HDF:=Yy (may_small hdm);have HDL:=Yy (show d.xs.length≤1000 by have:=HLA10.out;have:=HLB10.out;omega);have HLN:Hid (∀ d':Bk,d'.rs=(a.rs++b.rs.take (k+1)).foldl bput []→d'.xs.length≤a.xs.length+(k+1)):=Yy (fun d' e=>by
        have e2:=bput_len d.rs (b.xs.getD k rcA0).R;have e3:d'.rs.length≤d.rs.length+1:=by
         rw[e,← hpn,rpL_bput hym (by rw[hdr];exact fold_rise rise_nil) hdm];exact e2
        unfold Bk.rs at e3;rw[List.length_map,List.length_map]at e3;omega)
       generalize b.xs.getD k rcA0=y at *;clear hA hcc hmem hym hpn hdm hdr;go_wp2_with fail;clear c00 hJ;refine wp_region_held_drew (S:=fun w'=>SJ w a b w') (by kernel_rfl) J.out.drew.1 (fun hS=>?_);have JD:=Yy J.out.drew;generalize World.drew _=X at *;refine YHd 1 (some 45) _ rfl hS (fun w9 hSw=>by (try dsimp only at hSw);go_simp;try with_reducible rfl) ?_;refine YHd 2 (some 46) _ rfl hS (fun w9 hSw=>by (try dsimp only at hSw);have q0:=hSw.2.2.c0;go_simp;try with_reducible rfl) ?_;refine YHd 3 (some 47) _ rfl hS (fun w9 hSw=>by (try dsimp only at hSw);go_simp;try with_reducible rfl) ?_;refine YHd 4 (some 48) _ rfl hS (fun w9 hSw=>by (try dsimp only at hSw);have q0:=IX.out w9;go_simp;try with_reducible rfl) ?_;refine YHd 5 (some 49) (.agg y.cells) rfl hS (fun w9 hSw=>by (try dsimp only at hSw);exact exec_load_by 36 _ rfl ⟨b0,off+k*19,none⟩ rfl (HREC.out.same (hSw.1.block b0 hb0)).load) ?_;refine wpAnyH_ready (rs:=[0]) (by kernel_rfl) (by simp) (AllReadyH.cons (o:=⟨some 44,_,_,_,_,_⟩) rfl (fun K hK=>?_) AllReadyH.nil);refine step_load rfl 24 (.tmp 8) rfl ⟨g0,0,none⟩ rfl _ JD.out.2.2.1.load ?_;refine hK.out _ _ JD.out.1 (fun hS=>?_);clear hK K
       try simp only[Act.put,Z2,Z3,Z4]
       refine wpAnyH_ready (rs:=[6]) (by kernel_rfl) (by simp) (AllReadyH.cons (o:=⟨some 50,_,_,_,_,_⟩) rfl (fun K hK=>?_) AllReadyH.nil);go_simp;refine (rbput_any d y X JD.out.2.2.2 (HVY.out.below JD.out.1.1 Nl) (by have:=HDL.out;omega) HDF.out HLY.out).mono ?_;rintro e X1 ⟨d',rfl,hdr,hdk,hb0'⟩;have J1:=Yy (JD.out.below hb0');have HDR:=Yy (hdr.trans HPN.out);have HDK:=Yy hdk;clear hdr hdk hb0';refine hK.out _ _ J1.out.1 (fun hS=>?_);clear hK K
       try simp only[Act.put,Z2,Z3,Z4]
       refine wpAnyH_ready (rs:=[7]) (by kernel_rfl) (by simp) (AllReadyH.cons (o:=⟨none,_,_,_,_,_⟩) rfl (fun K hK=>?_) AllReadyH.nil);refine step_store_oldb rfl (.tmp 8) (.tmp 50) rfl g0 _ J1.out.2.2.1 rfl (.slice d'.A d'.xs.length d'.c) rfl rfl ?_;exact Tta37
      ·obtain rfl:k=b.xs.length:=by omega
       have t1:¬ (b.xs.length:Int)<(b.xs.length:Int):=by omega
       rw[HTB.out]at hdr;have HJN:Hid (d.rs=bjoin a.rs b.rs):=Yy hdr;have HLN:Hid ((bjoin a.rs b.rs).length=d.xs.length):=Yy (by rw[← HJN.out];unfold Bk.rs;rw[List.length_map]);have d00:=J.out.2.2.1.c0;have E2:=Yy J.out.2.1;have LG:=Yy J.out.2.2.1.load;clear hJ hdr;by_cases hl:d.xs.length≤10
       ·have t2:¬ (10:Int)<(d.xs.length:Int):=by omega
        have HE:=Yy (HYE.out (by rw[HLN.out];exact hl));clear hl;go_wp2_with (first | ((with_reducible refine YyL 24 (.tmp 8) ⟨g0,0,none⟩ LG.out ?_ ?_ ?_);rfl;rfl) | ((with_reducible refine wpList_store_oldb (o:=⟨none,.store 24 (.tmp 4) (.tmp 56),_,_,_,_⟩) ?_ (.tmp 4) (.tmp 56) ?_ (w.heap.size+1+1) _ E2.out ?_ (.slice d.A d.xs.length d.c) ?_ ?_ ?_);rfl;rfl;rfl;rfl;rfl;intro w2 hg2 hx2;have G9:=Yy hg2;have X9:=Yy hx2;clear hg2 hx2));refine bodyPost_ret (v:=.tuple #[.agg #[.slice d.A d.xs.length d.c],.int .i64 0]) ?_ rfl ?_
        ·exact res_bk2 Tryz.results38 rfl X9.out
        ·rw[HE.out];exact⟨d,rfl,HJN.out,J.out.2.2.2.kept_bo G9.out E2.out,J.out.1.1.grown G9.out J.out.1.1.size (fun k e=>by have:=Option.some.inj e;omega)⟩
       ·have t2:(10:Int)<(d.xs.length:Int):=by omega
        have HE:=Yy (HLE.out (by rw[HLN.out];omega));clear hl;go_wp2_with (first | ((with_reducible refine wpList_store_oldb (o:=⟨none,.store 24 (.tmp 4) (.tmp 55),_,_,_,_⟩) ?_ (.tmp 4) (.tmp 55) ?_ (w.heap.size+1+1) _ E2.out ?_ (.slice none 0 0) ?_ ?_ ?_);rfl;rfl;rfl;rfl;rfl;intro w2 hg2 hx2;have G9:=Yy hg2;have X9:=Yy hx2;clear hg2 hx2));refine bodyPost_ret (v:=.tuple #[.agg #[.slice none 0 0],.int .i64 4]) ?_ rfl ?_
        ·exact res_bk2 Tryz.results38 rfl X9.out
        ·rw[HE.out];exact⟨bk0,rfl,rfl,BkAt.zero _,J.out.1.1.grown G9.out J.out.1.1.size (fun k e=>by have:=Option.some.inj e;omega)⟩
end
section
open Go.RowKit Go.Shelf WM
end
end
end Go.Proofs.YtnlhkpmgbpfjmaaGreatDoor
