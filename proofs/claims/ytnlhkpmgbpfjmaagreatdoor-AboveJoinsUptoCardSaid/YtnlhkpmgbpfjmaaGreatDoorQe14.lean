import Derived.Test.YtnlhkpmgbpfjmaaGreatDoorQe12
import Derived.Test.YtnlhkpmgbpfjmaaGreatDoorQe13
/- What functions answer, part 14. -/
namespace Go.Proofs.YtnlhkpmgbpfjmaaGreatDoor
set_option linter.unusedVariables false
set_option linter.unusedSimpArgs false
set_option maxHeartbeats 16000000
set_option maxRecDepth 100000
section
open Go.RowKit WM
theorem xmay_any (x:RcA) (w:World) (h:RvAt w x):Calls Tryz.prog 58 #[.agg x.cells] w fun e w'=>e=.returned (.bool x.R.may)∧Below w.heap.size w w':=may_any' x.R x.A x.c w h.1 h.2
theorem xsame_any (x y:RcA) (w:World) (h:RvAt w x) (k:RvAt w y):Calls Tryz.prog 56 #[.agg x.cells,.agg y.cells] w fun e w'=>e=.returned (.bool (x.R.same y.R))∧Below w.heap.size w w':=
 same_any' x.R y.R x.A y.A x.c y.c w h.1 k.1 h.2 k.2
theorem xjoin_any (x y:RcA) (w:World) (hlaid:Laid w) (h:RvAt w x) (k:RvAt w y):Calls Tryz.prog 82 #[.agg x.cells,.agg y.cells] w fun e w'=>
  ∃ j:RcA,e=.returned (.tuple #[.agg j.cells,.bool (x.R.join y.R).isSome])∧j.R=(x.R.join y.R).getD rc0∧RvAt w' j∧Below w.heap.size w w':=
 (join_any x.R y.R x.A y.A x.c y.c w hlaid h.1 k.1 h.2 k.2).mono fun e w' hp=>by
  obtain⟨A,c,he,hf,hb⟩:=hp;exact⟨⟨(x.R.join y.R).getD rc0,A,c⟩,he,rfl,⟨Rc.getD_ok h.1,hf⟩,hb⟩
theorem xfew_any (x:RcA) (w:World) (h:RvAt w x):Calls Tryz.prog 12 #[.agg x.cells] w fun e w'=>e=.returned (.bool (fewR x.R.fs))∧Below w.heap.size w w':=fewR_any x.R x.A x.c w h.1 h.2
def XAt (w:World) (b:Nat) (x:RcA):Prop:=x.R.z.length=16∧w.heap[b]?=some (.cells x.cells 36)
section
variable {w w':World} {b B:Nat} {x:RcA}
theorem XAt.rc (h:XAt w b x):RcAt w b x.R.z x.R.n x.R.r x.s:=h
theorem XAt.lt (h:XAt w b x):b<w.heap.size:=h.rc.lt
theorem XAt.below (h:XAt w b x) (hb:Below B w w') (hB:b<B):XAt w' b x:=h.rc.below hb hB
theorem XAt.same (h:XAt w b x) (hb:w'.heap[b]?=w.heap[b]?):XAt w' b x:=⟨h.1,hb.trans h.2⟩
theorem XAt.old (h:XAt w b x) (o:Obj):XAt (w.alloc o) b x:=h.rc.old o
theorem XAt.new (w:World) (hz:x.R.z.length=16):XAt (w.alloc (.cells x.cells 36)) w.heap.size x:=⟨hz,heap_alloc_new w _⟩
theorem XAt.rec (h:XAt w b x):RecAt w b 0 x:=RecAt.of_row h.1 h.2
theorem XAt.load (h:XAt w b x):(loadVar 36 ⟨b,0,none⟩).run Tryz.prog w=.ok (.agg x.cells) w:=h.rec.load
theorem XAt.load_id (h:XAt w b x):(loadVar 31 ⟨b,0,none⟩).run Tryz.prog w=.ok (.agg (bvals x.R.z)) w:=h.rec.load_id
theorem XAt.c16 (h:XAt w b x):w.cell? ⟨b,16,none⟩=some (.int .i64 x.R.n):=h.rc.c16
theorem XAt.c17 (h:XAt w b x):w.cell? ⟨b,17,none⟩=some (.int .i64 x.R.r):=h.rc.c17
theorem XAt.c18 (h:XAt w b x):w.cell? ⟨b,18,none⟩=some (.slice x.A x.R.fs.length x.c):=h.rc.c18
theorem XAt.fz (h:XAt w b x) (j:Nat):w.frozen? ⟨b,j,none⟩=false:=h.rc.fz j
end
theorem zrec:rcA0.cells=rcells z16 0 0 (.slice none 0 0):=rfl
theorem zeroX (w:World):(zeroValue 36).run Tryz.prog w=.ok (.agg rcA0.cells) w:=zeroRec w
theorem x_one (x:RcA):x.cells.all (·.oneCell')=true:=rcells_one rfl
theorem x_size {x:RcA} (h:x.R.z.length=16):(Tryz.prog.info? 36).map (·.size)=some x.cells.size:=size_rcells h _ _ _
theorem wpList_store_newx {w:World} {ops:Array Oper} {rest:List Oper} {o:Oper} {a:Act} {Q:Exit→Act→World→Prop} (hgd:o.guard=none) (p q:Operand) (hop:o.op=.store 36 p q)
  (b:Nat) (hb:b=w.heap.size) (hx:a.eval p=.pointer (some ⟨b,0,none⟩)) (x:RcA) (hy:a.eval q=.agg x.cells) (hz:x.R.z.length=16)
  (hK:∀ w',Below w.heap.size w w'→XAt w' b x→w'.heap.size=w.heap.size+1→wpList Tryz.prog ops Q rest (a.put o.dst undef) w'):wpList Tryz.prog ops Q (o::rest) a (w.alloc (.cells rcA0.cells 36)):=by
 subst hb;refine wpList_store_row hgd 36 p q hop w.heap.size x.cells hx hy 36 _ (RcAt.new w z16_len 0 0 (.slice none 0 0)).hp (x_size hz) ((rcells_size z16_len _ _ _).trans (cells_len hz).symm) (x_one x) ?_;rw[zrec,putR];exact hK _ ((Below.refl w.heap.size w).alloc Nl _) (XAt.new w hz) (World.size_alloc _ _)
theorem wpList_store_oldx {w:World} {ops:Array Oper} {rest:List Oper} {o:Oper} {a:Act} {Q:Exit→Act→World→Prop} (hgd:o.guard=none) (p q:Operand) (hop:o.op=.store 36 p q)
  (b:Nat) (y:RcA) (hb:XAt w b y) (hx:a.eval p=.pointer (some ⟨b,0,none⟩)) (x:RcA) (hy:a.eval q=.agg x.cells) (hz:x.R.z.length=16)
  (hK:∀ w',w.grownBy w' (some b)→XAt w' b x→wpList Tryz.prog ops Q rest (a.put o.dst undef) w'):wpList Tryz.prog ops Q (o::rest) a w:=by
 refine wpList_store_row hgd 36 p q hop b x.cells hx hy 36 _ hb.2 (x_size hz) (by rw[cells_len hb.1,cells_len hz]) (x_one x) ?_;exact hK _ (grownBy_setRow w b _) (hb.rc.putAll hz)
theorem bk_one {v:Value} (hv:v.oneCell'=true):(#[v]:Array Value).all (·.oneCell')=true:=by
 rw[Array.all_eq_true_iff_forall_mem];intro u hu;rw[Array.mem_singleton.1 hu];exact hv
theorem wpList_store_oldb {w:World} {ops:Array Oper} {rest:List Oper} {o:Oper} {a:Act} {Q:Exit→Act→World→Prop} (hgd:o.guard=none) (p q:Operand) (hop:o.op=.store 24 p q)
  (g:Nat) (v:Value) (hb:BoAt w g v) (hx:a.eval p=.pointer (some ⟨g,0,none⟩)) (u:Value) (hy:a.eval q=.agg #[u]) (hu:u.oneCell'=true)
  (hK:∀ w',w.grownBy w' (some g)→BoAt w' g u→wpList Tryz.prog ops Q rest (a.put o.dst undef) w'):wpList Tryz.prog ops Q (o::rest) a w:=by
 refine wpList_store_row hgd 24 p q hop g #[u] hx hy 24 _ hb sizeBook rfl (bk_one hu) ?_;exact hK _ (grownBy_setRow w g _) (hb.put u)
theorem FsAt.kept' {w w':World} {A:Option Addr} {c:Nat} {fs:List Fld} {b:Nat} (h:FsAt w A c fs) (hg:w.grownBy w' (some b)) (hne:∀ off,0<fs.length→A=some ⟨b,off,none⟩→False):FsAt w' A c fs:=by
 obtain⟨h1,h2,h3,h4⟩:=h;refine⟨h1,h2,h3,fun h0=>?_⟩;obtain⟨b',off,rfl,hlt,hc⟩:=h4 h0;have hn:some b'≠some b:=fun e=>hne off h0 (by rw[Option.some.inj e]);refine⟨b',off,rfl,Nat.lt_of_lt_of_le hlt hg.size,fun i hi=>?_⟩;obtain⟨c0,c1,c2,c3⟩:=hc i hi;have hq:∀ o,w'.cell? ⟨b',o,none⟩=w.cell? ⟨b',o,none⟩:=fun o=>by simp only[World.cell?,hg.block b' hlt hn]
 exact⟨(hq _).trans c0,(hq _).trans c1,(hq _).trans c2,(hq _).trans c3⟩
theorem FsAt.str {w:World} {b off c:Nat} {fs:List Fld} (h:FsAt w (some ⟨b,off,none⟩) c fs) (h0:0<fs.length):∃ s,w.cell? ⟨b,off+3,none⟩=some (.string s):=by
 obtain⟨_,_,_,h4⟩:=h;obtain⟨b',off',he,_,hc⟩:=h4 h0
 injection he with he
 injection he with he1 he2
 subst he1 he2;have:=(hc 0 h0).2.2.2;rw[Nat.zero_mul,Nat.add_zero]at this;exact⟨_,this⟩
theorem cs_nostr (x:RcA):∀ u∈x.cs,∀ s,u≠.string s:=by
 intro u hu s e;subst e;simp only[RcA.cs,RcA.cells,rcells,RcA.s,List.mem_append,List.mem_map,List.mem_cons,List.not_mem_nil,or_false]at hu;rcases hu with ⟨x,_,hx⟩ | hx | hx | hx<;>cases hx
theorem RvAt.kept_x {w w':World} {y x:RcA} {b:Nat} (h:RvAt w y) (hg:w.grownBy w' (some b)) (hx:XAt w b x):RvAt w' y:=⟨h.1,h.2.kept' hg fun off h0 e=>by
 have hF:=h.2;rw[e]at hF;obtain⟨s,hs⟩:=hF.str h0;rw[cell_of_row _ _ _ _ _ _ hx.2]at hs;exact cs_nostr x _ (by rw[RcA.cs];exact List.mem_of_getElem? (by rw[Array.getElem?_toList];exact hs)) s rfl⟩
theorem RvAt.kept_bo {w w':World} {y:RcA} {b:Nat} {v:Value} (h:RvAt w y) (hg:w.grownBy w' (some b)) (hx:BoAt w b v):RvAt w' y:=⟨h.1,h.2.kept' hg fun off h0 e=>by
 have hF:=h.2;rw[e]at hF;obtain⟨s,hs⟩:=hF.str h0;rw[cell_of_row _ _ _ _ _ _ hx]at hs;simp at hs⟩
theorem RvAt.kept_map {w w':World} {y:RcA} {b:Nat} {es:Array MapEntry} {cl:Nat} (h:RvAt w y) (hg:w.grownBy w' (some b)) (hx:w.heap[b]?=some (.map es cl)):RvAt w' y:=⟨h.1,h.2.kept' hg fun off h0 e=>by
 have hF:=h.2;rw[e]at hF;obtain⟨s,hs⟩:=hF.str h0;simp[World.cell?,hx]at hs⟩
theorem Tta14 {p:Prop} (h:p:=by
  obtain⟨b',off,e,hlt,hc⟩:=h4 h0;have hn:b'≠b:=by
   rintro rfl;have h6:=hc 0 h0;have h7:=h6.2 1 (by omega);rw[cell_of_row _ _ _ _ _ _ hx,List.getElem?_eq_getElem (by rw[cs_len h6.1];omega)]at h7;simp at h7
  exact⟨b',off,e,Nat.lt_of_lt_of_le hlt hg.size,fun i hi=>(hc i hi).same (hg.block b' hlt (fun e=>hn (Option.some.inj e)))⟩
 ):p:=h
theorem BkAt.kept_bo {w w':World} {d:Bk} {b:Nat} {v:Value} (h:BkAt w d) (hg:w.grownBy w' (some b)) (hx:BoAt w b v):BkAt w' d:=by
 obtain⟨h1,h2,h3,h4,h5⟩:=h;refine⟨h1,h2,h3,fun h0=>?_,fun x hxx=>(h5 x hxx).kept_bo hg hx⟩;exact Tta14
end
section
open Go.RowKit WM
def prevZ (xs:List RcA) (k:Nat):Option (List Int):=if k=0 then none else some (xs.getD (k - 1) rcA0).R.z
theorem okB_drop {xs:List RcA} {k:Nat} (p:Option (List Int)) (hk:k<xs.length):okB p ((xs.drop k).map (·.R)) =
  ((xs.getD k rcA0).R.may && pzok p (xs.getD k rcA0).R.z && okB (some (xs.getD k rcA0).R.z) ((xs.drop (k+1)).map (·.R))):=by
 rw[List.drop_eq_getElem_cons hk,List.map_cons,okB];simp only[List.getD,List.getElem?_eq_getElem hk,Option.getD_some]
theorem prevZ_succ (xs:List RcA) (k:Nat):prevZ xs (k+1)=some (xs.getD k rcA0).R.z:=by
 unfold prevZ;rw[if_neg (by omega),Nat.add_sub_cancel]
theorem Tta24 {p:Prop} (h:p:=by
  refine YGa 19 (some 36) rfl ?_;refine wpG_done (by kernel_rfl) ?_ _;intro w9 hSw _;have B9:=Yy (HB2.out.trans (hSw.mono HB2.out.size));have BO9:=Yy (B2.out.below hSw B2.out.lt);clear hSw;go_wp2;go_ret;exact⟨by rw[HF.out];rfl,B9.out⟩
 ):p:=h
theorem Tta11 {p:Prop} (h:p:=by
  refine YGa 18 (some 35) rfl ?_;refine YGa 19 (some 36) rfl ?_;refine wpG_done (by kernel_rfl) ?_ _;intro w9 hSw _;have B9:=Yy (HB2.out.trans (hSw.mono HB2.out.size));have BO9:=Yy (B2.out.below hSw B2.out.lt);clear hSw;go_wp2;go_roundw
  case rel=>exact⟨k+1,by omega,by go_num,BO9.out,B9.out,by rw[HPQ.out];exact HF.out⟩
  case measure=>simp[intOf];omega
 ):p:=h
theorem bmay_any (b:Bk) (w:World) (h:BkAt w b):
  Calls Tryz.prog 27 #[.agg #[.slice b.A b.xs.length b.c]] w fun e w'=>e=.returned (.bool (bmay b.rs))∧Below w.heap.size w w':=by
 obtain⟨xs,A,c⟩:=b;dsimp only;have S0:=Yy (BoAt.new w (.slice A xs.length c));have HB:=Yy ((Below.refl w.heap.size w).alloc Nl (.cells #[.slice A xs.length c] 24));have s0:=S0.out.c0;have HRV:=Yy (fun i (hi:i<xs.length)=>RsAt.rv h hi);obtain⟨hc1,hc2,hc3,hcell,_⟩:=h;dsimp only at hc1 hc2 hc3 hcell HRV;simp only[maxLen]at hc2;have HC:=Yy hcell;have HV:Hid (bmay (Bk.rs ⟨xs,A,c⟩)=(decide (xs.length≤10) && okB (prevZ xs 0) ((xs.drop 0).map (·.R)))):=Yy (by unfold bmay Bk.rs;rw[List.length_map];rfl);clear hcell;have hz:=zeroX;generalize bmay (Bk.rs ⟨xs,A,c⟩)=V at HV ⊢;by_cases h10:xs.length≤10
 ·have hV2:=HV.out;rw[decide_eq_true h10,Bool.true_and]at hV2;have HV2:=Yy hV2;generalize hlen:xs.length=len at *;have HLN:=Yy hlen;have t1:¬ 10<(len:Int):=by omega
  clear hV2 hlen;go_enter Tryz.func27,Tryz.ntmps27;go_wp2;clear s0;go_loopw [12] (fun i wr=>∃ k:Nat,k≤len∧i=.int .i64 k∧BoAt wr w.heap.size (.slice A len c)∧Below w.heap.size w wr∧V=okB (prevZ xs k) ((xs.drop k).map (·.R))) (fun i _=>len - (intOf i).toNat)
  case atStart=>exact⟨0,Nat.zero_le _,rfl,S0.out,HB.out,HV2.out⟩
  case round=>
   obtain⟨k,hk,rfl,hs,hb,hf⟩:=hrel;by_cases hlt:k<len
   ·obtain⟨b0,off,rfl,hb0,hcc⟩:=HC.out (by omega);have hx:=(hcc k hlt).same (hb.block b0 hb0);have IX:=ix_rec b0 off len c k hlt k rfl;have HXV:=Yy ((HRV.out k hlt).below hb Nl);rw[okB_drop _ (by rw[HLN.out];exact hlt),← prevZ_succ]at hf;have HZ16:=Yy HXV.out.len;have HBS:=Yy (And.intro hs hb);have hb02:=Nat.lt_of_lt_of_le hb0 hb.size;have LX:=Yy hx.load;have HY:Hid (0<k→∃ y:RcA,prevZ xs k=some y.R.z∧RvAt wr y∧RecAt wr b0 (off+(k - 1)*19) y):=Yy (fun h0=>⟨xs.getD (k - 1) rcA0,by unfold prevZ;rw[if_neg (by omega)],(HRV.out (k - 1) (by omega)).below hb Nl,(hcc (k - 1) (by omega)).same (hb.block b0 hb0)⟩);generalize xs.getD k rcA0=x at *;generalize hpzq:prevZ xs (k+1)=pz at *;have HPQ:=Yy hpzq;generalize hox:off+k*19=ox at *;clear hcc hs hb hx hox hpzq;have hS3:=HBS.out.1.c0;cases hm:x.R.may
    ·rw[hm]at hf;simp only[Bool.false_and]at hf;have HF:=Yy hf;have HMY:=Yy hm;clear hf hm;go_wp2_with (first | ((with_reducible refine YyL 36 (.tmp 15) ⟨b0,ox,none⟩ LX.out ?_ ?_ ?_);rfl;rfl) | ((with_reducible refine wpList_store_newx (o:=⟨none,.store 36 (.tmp 4) (.tmp 16),_,_,_,_⟩) (w:=wr) ?_ (.tmp 4) (.tmp 16) ?_ wr.heap.size ?_ ?_ x ?_ HZ16.out ?_);rfl;rfl;rfl;rfl;rfl;intro w2 hb2 hx2 hs2;have X2:=Yy hx2;have HS2:=Yy hs2;have HW2:=Yy hb2;have HB2:=Yy (HBS.out.2.trans (hb2.mono HBS.out.2.size));have B2:=Yy (HBS.out.1.below hb2 HBS.out.1.lt);have HM:=Yy (fun (w9:World) (hS:Below w2.heap.size w2 w9)=>xmay_any x w9 ((HXV.out.below hb2 Nl).below hS Nl));rw[HMY.out]at HM;clear hb2 hx2 hs2));refine wp_region_G _ (by kernel_rfl) ?_;refine YGd 0 (some 17) (.agg x.cells) rfl (fun w9 hSw=>by exact exec_load_by 36 _ rfl ⟨wr.heap.size,0,none⟩ rfl (X2.out.below hSw X2.out.lt).load) ?_;refine YGj 1 (some 18) rfl HM.out ?_;refine YGa 2 (some 19) rfl ?_;refine YGa 3 (some 20) rfl ?_;refine YGo 4 (some 21) rfl ?_;refine YGo 5 (some 22) rfl ?_;refine YGo 6 (some 23) rfl ?_;refine YGo 7 (some 24) rfl ?_;refine YGo 8 (some 25) rfl ?_;refine YGo 9 (some 26) rfl ?_;refine YGo 10 (some 27) rfl ?_;refine YGo 11 (some 28) rfl ?_;refine YGo 12 (some 29) rfl ?_;refine YGo 13 (some 30) rfl ?_;refine YGo 14 (some 31) rfl ?_;refine YGo 15 (some 32) rfl ?_;refine YGo 16 (some 33) rfl ?_;refine YGo 17 (some 34) rfl ?_;refine YGo 18 (some 35) rfl ?_;exact Tta24
    ·rw[hm]at hf;simp only[Bool.true_and]at hf;have HMY:=Yy hm;clear hm;by_cases h0:k=0
     ·have HF:=Yy (show V=okB pz ((xs.drop (k+1)).map (·.R)) by rw[hf,prevZ,if_pos h0];rfl);have t3:¬ (0:Int)<(k:Int):=by omega
      clear hf h0;go_wp2_with (first | ((with_reducible refine YyL 36 (.tmp 15) ⟨b0,ox,none⟩ LX.out ?_ ?_ ?_);rfl;rfl) | ((with_reducible refine wpList_store_newx (o:=⟨none,.store 36 (.tmp 4) (.tmp 16),_,_,_,_⟩) (w:=wr) ?_ (.tmp 4) (.tmp 16) ?_ wr.heap.size ?_ ?_ x ?_ HZ16.out ?_);rfl;rfl;rfl;rfl;rfl;intro w2 hb2 hx2 hs2;have X2:=Yy hx2;have HS2:=Yy hs2;have HW2:=Yy hb2;have HB2:=Yy (HBS.out.2.trans (hb2.mono HBS.out.2.size));have B2:=Yy (HBS.out.1.below hb2 HBS.out.1.lt);have HM:=Yy (fun (w9:World) (hS:Below w2.heap.size w2 w9)=>xmay_any x w9 ((HXV.out.below hb2 Nl).below hS Nl));rw[HMY.out]at HM;clear hb2 hx2 hs2));refine wp_region_G _ (by kernel_rfl) ?_;refine YGd 0 (some 17) (.agg x.cells) rfl (fun w9 hSw=>by exact exec_load_by 36 _ rfl ⟨wr.heap.size,0,none⟩ rfl (X2.out.below hSw X2.out.lt).load) ?_;refine YGj 1 (some 18) rfl HM.out ?_;refine YGa 2 (some 19) rfl ?_;refine YGa 3 (some 20) rfl ?_;refine YGa 4 (some 21) rfl ?_;refine YGd 5 (some 22) (.bool false) rfl (fun w9 hSw=>by have q0:=decide_eq_false (show ¬ (0:Int)<(k:Int) by omega);first | (go_simp;done) | (go_simp;omega) | (go_simp;rfl) | (simp[go_sem,execOp,q0];done) | (simp[go_sem,execOp,q0];rfl)) ?_;refine YGa 6 (some 23) rfl ?_;refine YGo 7 (some 24) rfl ?_;refine YGo 8 (some 25) rfl ?_;refine YGo 9 (some 26) rfl ?_;refine YGo 10 (some 27) rfl ?_;refine YGo 11 (some 28) rfl ?_;refine YGo 12 (some 29) rfl ?_;refine YGo 13 (some 30) rfl ?_;refine YGo 14 (some 31) rfl ?_;refine YGo 15 (some 32) rfl ?_
      refine YGo 16 (some 33) rfl ?_;refine YGo 17 (some 34) rfl ?_;exact Tta11
     ·obtain⟨y,hpy,hyv,hya⟩:=HY.out (by omega);rw[hpy,pzok]at hf;have t3:(0:Int)<(k:Int):=by omega
      have IXY:=Yy (fun w9=>ix_rec b0 off len c (k - 1) (by omega) ((k:Int) - 1) (by omega) w9);have HYV:=Yy hyv;generalize hoy:off+(k - 1)*19=oy at *;have HYA:=Yy hya;clear hoy hyv hya hpy;cases hl:lessL y.R.z x.R.z
      ·rw[hl]at hf;simp only[Bool.false_and]at hf;have HF:=Yy hf;have HLS:=Yy hl;clear hf hl;go_wp2_with (first | ((with_reducible refine YyL 36 (.tmp 15) ⟨b0,ox,none⟩ LX.out ?_ ?_ ?_);rfl;rfl) | ((with_reducible refine wpList_store_newx (o:=⟨none,.store 36 (.tmp 4) (.tmp 16),_,_,_,_⟩) (w:=wr) ?_ (.tmp 4) (.tmp 16) ?_ wr.heap.size ?_ ?_ x ?_ HZ16.out ?_);rfl;rfl;rfl;rfl;rfl;intro w2 hb2 hx2 hs2;have X2:=Yy hx2;have HS2:=Yy hs2;have HW2:=Yy hb2;have HB2:=Yy (HBS.out.2.trans (hb2.mono HBS.out.2.size));have B2:=Yy (HBS.out.1.below hb2 HBS.out.1.lt);have HM:=Yy (fun (w9:World) (hS:Below w2.heap.size w2 w9)=>xmay_any x w9 ((HXV.out.below hb2 Nl).below hS Nl));rw[HMY.out]at HM;have Y2:=Yy (HYA.out.same (hb2.block b0 hb02));have HL:=Yy (fun (w9:World) (hS:Below w2.heap.size w2 w9)=>bless_any y.R.z x.R.z w9 HYV.out.1.2 HXV.out.1.2 HYV.out.len HXV.out.len);rw[HLS.out]at HL;have hb02:=Nat.lt_of_lt_of_le hb02 hb2.size;clear hb2 hx2 hs2));refine wp_region_G _ (by kernel_rfl) ?_;refine YGd 0 (some 17) (.agg x.cells) rfl (fun w9 hSw=>by exact exec_load_by 36 _ rfl ⟨wr.heap.size,0,none⟩ rfl (X2.out.below hSw X2.out.lt).load) ?_;refine YGj 1 (some 18) rfl HM.out ?_;refine YGa 2 (some 19) rfl ?_;refine YGa 3 (some 20) rfl ?_;refine YGa 4 (some 21) rfl ?_;refine YGd 5 (some 22) (.bool true) rfl (fun w9 hSw=>by have q0:=decide_eq_true (show (0:Int)<(k:Int) by omega);first | (go_simp;done) | (go_simp;omega) | (go_simp;rfl) | (simp[go_sem,execOp,q0];done) | (simp[go_sem,execOp,q0];rfl)) ?_
       refine YGa 6 (some 23) rfl ?_;refine YGa 7 (some 24) rfl ?_;refine YGb 8 (some 25) rfl (fun w9 hSw=>(B2.out.below hSw B2.out.lt).c0) ?_;refine YGa 9 (some 26) rfl ?_;refine YGd 10 (some 27) _ rfl (fun w9 hSw=>by have x1:IntKind.i64.wrap ((k:Int) - 1)=(k:Int) - 1:=IntWalk.i64_in _ (by omega);go_simp;try with_reducible rfl) ?_;refine YGb 11 (some 28) rfl (fun w9 hSw=>IXY.out w9) ?_;refine YGa 12 (some 29) rfl ?_;refine YGd 13 (some 30) (.agg (bvals y.R.z)) rfl (fun w9 hSw=>by exact exec_load_by 31 _ rfl ⟨b0,oy,none⟩ rfl (Y2.out.same (hSw.block b0 hb02)).load_id) ?_;refine YGa 14 (some 31) rfl ?_;refine YGd 15 (some 32) (.agg (bvals x.R.z)) rfl (fun w9 hSw=>by exact exec_load_by 31 _ rfl ⟨wr.heap.size,0,none⟩ rfl (X2.out.below hSw X2.out.lt).load_id) ?_;refine YGj 16 (some 33) rfl HL.out ?_;refine YGa 17 (some 34) rfl ?_;refine YGa 18 (some 35) rfl ?_;exact Tta24
      ·rw[hl]at hf;simp only[Bool.true_and]at hf;have HF:=Yy hf;have HLS:=Yy hl;clear hf hl;go_wp2_with (first | ((with_reducible refine YyL 36 (.tmp 15) ⟨b0,ox,none⟩ LX.out ?_ ?_ ?_);rfl;rfl) | ((with_reducible refine wpList_store_newx (o:=⟨none,.store 36 (.tmp 4) (.tmp 16),_,_,_,_⟩) (w:=wr) ?_ (.tmp 4) (.tmp 16) ?_ wr.heap.size ?_ ?_ x ?_ HZ16.out ?_);rfl;rfl;rfl;rfl;rfl;intro w2 hb2 hx2 hs2;have X2:=Yy hx2;have HS2:=Yy hs2;have HW2:=Yy hb2;have HB2:=Yy (HBS.out.2.trans (hb2.mono HBS.out.2.size));have B2:=Yy (HBS.out.1.below hb2 HBS.out.1.lt);have HM:=Yy (fun (w9:World) (hS:Below w2.heap.size w2 w9)=>xmay_any x w9 ((HXV.out.below hb2 Nl).below hS Nl));rw[HMY.out]at HM;have Y2:=Yy (HYA.out.same (hb2.block b0 hb02));have HL:=Yy (fun (w9:World) (hS:Below w2.heap.size w2 w9)=>bless_any y.R.z x.R.z w9 HYV.out.1.2 HXV.out.1.2 HYV.out.len HXV.out.len);rw[HLS.out]at HL;have hb02:=Nat.lt_of_lt_of_le hb02 hb2.size;clear hb2 hx2 hs2));refine wp_region_G _ (by kernel_rfl) ?_;refine YGd 0 (some 17) (.agg x.cells) rfl (fun w9 hSw=>by exact exec_load_by 36 _ rfl ⟨wr.heap.size,0,none⟩ rfl (X2.out.below hSw X2.out.lt).load) ?_;refine YGj 1 (some 18) rfl HM.out ?_;refine YGa 2 (some 19) rfl ?_;refine YGa 3 (some 20) rfl ?_;refine YGa 4 (some 21) rfl ?_;refine YGd 5 (some 22) (.bool true) rfl (fun w9 hSw=>by have q0:=decide_eq_true (show (0:Int)<(k:Int) by omega);first | (go_simp;done) | (go_simp;omega) | (go_simp;rfl) | (simp[go_sem,execOp,q0];done) | (simp[go_sem,execOp,q0];rfl)) ?_
       refine YGa 6 (some 23) rfl ?_;refine YGa 7 (some 24) rfl ?_;refine YGb 8 (some 25) rfl (fun w9 hSw=>(B2.out.below hSw B2.out.lt).c0) ?_;refine YGa 9 (some 26) rfl ?_;refine YGd 10 (some 27) _ rfl (fun w9 hSw=>by have x1:IntKind.i64.wrap ((k:Int) - 1)=(k:Int) - 1:=IntWalk.i64_in _ (by omega);go_simp;try with_reducible rfl) ?_;refine YGb 11 (some 28) rfl (fun w9 hSw=>IXY.out w9) ?_;refine YGa 12 (some 29) rfl ?_;refine YGd 13 (some 30) (.agg (bvals y.R.z)) rfl (fun w9 hSw=>by exact exec_load_by 31 _ rfl ⟨b0,oy,none⟩ rfl (Y2.out.same (hSw.block b0 hb02)).load_id) ?_;refine YGa 14 (some 31) rfl ?_;refine YGd 15 (some 32) (.agg (bvals x.R.z)) rfl (fun w9 hSw=>by exact exec_load_by 31 _ rfl ⟨wr.heap.size,0,none⟩ rfl (X2.out.below hSw X2.out.lt).load_id) ?_;refine YGj 16 (some 33) rfl HL.out ?_;refine YGa 17 (some 34) rfl ?_;exact Tta11
   ·obtain rfl:k=len:=by omega
    rw[List.drop_eq_nil_of_le (by rw[HLN.out];exact Nat.le_refl _),List.map_nil,okB]at hf;exact Tta50
 ·have hV2:=HV.out;rw[decide_eq_false h10,Bool.false_and]at hV2;have HF:=Yy hV2;have t1:10<(xs.length:Int):=by omega
  clear hV2;go_enter Tryz.func27,Tryz.ntmps27;go_wp2;go_ret;exact⟨by rw[HF.out];rfl,HB.out⟩
end
section
open Go.RowKit WM
theorem bsame_drop {xs ys:List RcA} {k:Nat} (h1:k<xs.length) (h2:k<ys.length):bsame ((xs.drop k).map (·.R)) ((ys.drop k).map (·.R)) =
  ((xs.getD k rcA0).R.same (ys.getD k rcA0).R && bsame ((xs.drop (k+1)).map (·.R)) ((ys.drop (k+1)).map (·.R))):=by
 rw[List.drop_eq_getElem_cons h1,List.drop_eq_getElem_cons h2,List.map_cons,List.map_cons,bsame];simp only[List.getD,List.getElem?_eq_getElem h1,List.getElem?_eq_getElem h2,Option.getD_some]
theorem beqf_any (A1 A2:Option Addr) (len1 len2 c1 c2:Nat) (xs ys:List RcA) (w:World) (hl1:xs.length=len1) (hl2:ys.length=len2) (h1:RsAt w A1 c1 xs) (h2:RsAt w A2 c2 ys):
  Calls Tryz.prog 55 #[.slice A1 len1 c1,.slice A2 len2 c2,.func (.func 56) #[] #[]] w fun e w'=>e=.returned (.bool (bsame (xs.map (·.R)) (ys.map (·.R))))∧Below w.heap.size w w':=by
 have HR1:=Yy (fun i (hi:i<xs.length)=>RsAt.rv h1 hi);have HR2:=Yy (fun i (hi:i<ys.length)=>RsAt.rv h2 hi);obtain⟨hc1,hm1,hn1,hcell1,_⟩:=h1;obtain⟨hc2,hm2,hn2,hcell2,_⟩:=h2;simp only[maxLen]at hm1 hm2;have HL1:=Yy hl1;have HC1:=Yy hcell1;have HL2:=Yy hl2;have HC2:=Yy hcell2;have hlen1:len1≤c1:=by omega
 have hlen2:len2≤c2:=by omega
 have hz:=zeroX;clear hcell1 hcell2 hc1 hc2 hl1 hl2 hn1 hn2;by_cases hl:len1=len2
 ·subst hl;have HV:=Yy (show bsame (xs.map (·.R)) (ys.map (·.R))=bsame ((xs.drop 0).map (·.R)) ((ys.drop 0).map (·.R)) by rw[List.drop_zero,List.drop_zero]);have HB0:=Yy (Below.refl w.heap.size w);generalize bsame (xs.map (·.R)) (ys.map (·.R))=V at HV ⊢;go_enter Tryz.func55,Tryz.ntmps55;go_wp2;go_loopw [17] (fun i wr=>∃ k:Nat,k≤len1∧i=.int .i64 k∧Below w.heap.size w wr∧V=bsame ((xs.drop k).map (·.R)) ((ys.drop k).map (·.R))) (fun i _=>len1 - (intOf i).toNat)
  case atStart=>exact⟨0,Nat.zero_le _,rfl,HB0.out,HV.out⟩
  case round=>
   obtain⟨k,hk,rfl,hb,hf⟩:=hrel;by_cases hlt:k<len1
   ·obtain⟨b1,off1,rfl,hB1,hcc1⟩:=HC1.out (by rw[HL1.out];omega);obtain⟨b2,off2,rfl,hB2,hcc2⟩:=HC2.out (by rw[HL2.out];omega);have hx:=(hcc1 k (by rw[HL1.out];exact hlt)).same (hb.block b1 hB1);have hy:=(hcc2 k (by rw[HL2.out];exact hlt)).same (hb.block b2 hB2);have IX1:=ix_rec b1 off1 len1 c1 k hlt k rfl;have IX2:=ix_rec b2 off2 len1 c2 k hlt k rfl;have hvx:=(HR1.out k (by rw[HL1.out];exact hlt)).below hb Nl;have hvy:=(HR2.out k (by rw[HL2.out];exact hlt)).below hb Nl;have hdr:=bsame_drop (xs:=xs) (ys:=ys) (k:=k) (by rw[HL1.out];exact hlt) (by rw[HL2.out];exact hlt);have hB2:=Nat.lt_of_lt_of_le hB2 hb.size;rw[hdr]at hf;generalize xs.getD k rcA0=x at *;generalize ys.getD k rcA0=y at *;generalize off1+k*19=o1 at *;generalize off2+k*19=o2 at *;have LX:=Yy hx.load;have HY:=Yy hy;have HVX:=Yy hvx;have HVY:=Yy hvy;have ZX:=Yy hvx.len;have ZY:=Yy hvy.len;have HBB:=Yy hb;clear hcc1 hcc2 hx hy hvx hvy hdr hb;cases hs:x.R.same y.R
    ·rw[hs,Bool.false_and]at hf;have HS:=Yy hs;have HF:=Yy hf;clear hs hf;go_wp2_with (first | ((with_reducible refine YyL 36 (.tmp 20) ⟨b1,o1,none⟩ LX.out ?_ ?_ ?_);rfl;rfl) | ((with_reducible refine wpList_store_newx (o:=⟨none,.store 36 (.tmp 8) (.tmp 21),_,_,_,_⟩) (w:=wr) ?_ (.tmp 8) (.tmp 21) ?_ wr.heap.size ?_ ?_ x ?_ ZX.out ?_);rfl;rfl;rfl;rfl;rfl;intro w2 hb2 hx2 hs2;have X2:=Yy hx2;have HW2:=Yy hb2;have LY:=Yy (HY.out.same (hb2.block b2 hB2)).load;clear hx2 hb2 hs2) | ((with_reducible refine YyL 36 (.tmp 24) ⟨b2,o2,none⟩ LY.out ?_ ?_ ?_);rfl;rfl) | ((with_reducible refine wpList_store_newx (o:=⟨none,.store 36 (.tmp 9) (.tmp 25),_,_,_,_⟩) (w:=w2) ?_ (.tmp 9) (.tmp 25) ?_ w2.heap.size ?_ ?_ y ?_ ZY.out ?_);rfl;rfl;rfl;rfl;rfl;intro w3 hb3 hy3 hs3;have HB3:=Yy (HW2.out.trans (hb3.mono HW2.out.size));have L27:=Yy (X2.out.below hb3 X2.out.lt).load;have L28:=Yy hy3.load;have HC:=Yy (xsame_any x y w3 (HVX.out.below HB3.out Nl) (HVY.out.below HB3.out Nl));rw[HS.out]at HC;clear hb3 hy3 hs3) | ((with_reducible refine YyL 36 (.tmp 8) ⟨wr.heap.size,0,none⟩ L27.out ?_ ?_ ?_);rfl;rfl) | ((with_reducible refine YyL 36 (.tmp 9) ⟨w2.heap.size,0,none⟩ L28.out ?_ ?_ ?_);rfl;rfl));refine HC.out.mono ?_;rintro e w4 ⟨rfl,hb4⟩;have B4:=Yy (HBB.out.trans ((HB3.out.trans (hb4.mono HB3.out.size)).mono HBB.out.size));clear hb4;go_wp2;go_ret;exact⟨by rw[HF.out];rfl,B4.out⟩
    ·rw[hs,Bool.true_and]at hf;have HS:=Yy hs;have HF:=Yy hf;clear hs hf;go_wp2_with (first | ((with_reducible refine YyL 36 (.tmp 20) ⟨b1,o1,none⟩ LX.out ?_ ?_ ?_);rfl;rfl) | ((with_reducible refine wpList_store_newx (o:=⟨none,.store 36 (.tmp 8) (.tmp 21),_,_,_,_⟩) (w:=wr) ?_ (.tmp 8) (.tmp 21) ?_ wr.heap.size ?_ ?_ x ?_ ZX.out ?_);rfl;rfl;rfl;rfl;rfl;intro w2 hb2 hx2 hs2;have X2:=Yy hx2;have HW2:=Yy hb2;have LY:=Yy (HY.out.same (hb2.block b2 hB2)).load;clear hx2 hb2 hs2) | ((with_reducible refine YyL 36 (.tmp 24) ⟨b2,o2,none⟩ LY.out ?_ ?_ ?_);rfl;rfl) | ((with_reducible refine wpList_store_newx (o:=⟨none,.store 36 (.tmp 9) (.tmp 25),_,_,_,_⟩) (w:=w2) ?_ (.tmp 9) (.tmp 25) ?_ w2.heap.size ?_ ?_ y ?_ ZY.out ?_);rfl;rfl;rfl;rfl;rfl;intro w3 hb3 hy3 hs3;have HB3:=Yy (HW2.out.trans (hb3.mono HW2.out.size));have L27:=Yy (X2.out.below hb3 X2.out.lt).load;have L28:=Yy hy3.load;have HC:=Yy (xsame_any x y w3 (HVX.out.below HB3.out Nl) (HVY.out.below HB3.out Nl));rw[HS.out]at HC;clear hb3 hy3 hs3) | ((with_reducible refine YyL 36 (.tmp 8) ⟨wr.heap.size,0,none⟩ L27.out ?_ ?_ ?_);rfl;rfl) | ((with_reducible refine YyL 36 (.tmp 9) ⟨w2.heap.size,0,none⟩ L28.out ?_ ?_ ?_);rfl;rfl));refine HC.out.mono ?_;rintro e w4 ⟨rfl,hb4⟩;have B4:=Yy (HBB.out.trans ((HB3.out.trans (hb4.mono HB3.out.size)).mono HBB.out.size));clear hb4;go_wp2;go_roundw
     case rel=>exact⟨k+1,by omega,by go_num,B4.out,HF.out⟩
     case measure=>simp[intOf];omega
   ·obtain rfl:k=len1:=by omega
    rw[List.drop_eq_nil_of_le (by rw[HL1.out];exact Nat.le_refl _),List.drop_eq_nil_of_le (by rw[HL2.out];exact Nat.le_refl _)]at hf;have HF:=Yy hf;have HB:=Yy hb;clear hf hb;go_wp2;go_ret;exact⟨by rw[HF.out];rfl,HB.out⟩
 ·have HF:=Yy (show bsame (xs.map (·.R)) (ys.map (·.R))=false by
   cases h:bsame (xs.map (·.R)) (ys.map (·.R)) with
   | false=>rfl
   | true=>
    have h2:=congrArg List.length (bsame_iff.1 h);rw[List.length_map,List.length_map,HL1.out,HL2.out]at h2;exact absurd h2 hl)
  have hne:¬ (len1:Int)=(len2:Int):=by omega
  have HB0:=Yy (Below.refl w.heap.size w);go_enter Tryz.func55,Tryz.ntmps55;go_wp2;go_ret;exact⟨by rw[HF.out];rfl,HB0.out⟩
theorem bsame_any (a b:Bk) (w:World) (h1:BkAt w a) (h2:BkAt w b):
  Calls Tryz.prog 24 #[.agg #[.slice a.A a.xs.length a.c],.agg #[.slice b.A b.xs.length b.c]] w fun e w'=>e=.returned (.bool (bsame a.rs b.rs))∧Below w.heap.size w w':=by
 obtain⟨xs,A,c⟩:=a;obtain⟨ys,B,d⟩:=b;unfold BkAt at h1 h2;dsimp only at h1 h2 ⊢;have S1:=(BoAt.new w (.slice A xs.length c)).old (.cells #[.slice B ys.length d] 24);have S2:=BoAt.new (w.alloc (.cells #[.slice A xs.length c] 24)) (.slice B ys.length d);rw[World.size_alloc]at S2;have HB:=Yy (((Below.refl w.heap.size w).alloc Nl (.cells #[.slice A xs.length c] 24)).alloc (by simp) (.cells #[.slice B ys.length d] 24));have s1:=S1.c0;have s2:=S2.c0;have HC:=Yy (beqf_any A B _ _ c d xs ys _ rfl rfl (h1.below HB.out Nl) (h2.below HB.out Nl));clear S1 S2 h1 h2;unfold Bk.rs;dsimp only;generalize xs.length=l1 at *;generalize ys.length=l2 at *;generalize bsame (xs.map (·.R)) (ys.map (·.R))=V at *;go_enter Tryz.func24,Tryz.ntmps24;go_wp2_with fail;refine HC.out.mono ?_;rintro e w1 ⟨rfl,hb⟩;have B1:=Yy (HB.out.trans (hb.mono HB.out.size));clear hb;go_wp2;go_ret;exact⟨rfl,B1.out⟩
end
section
open Go.RowKit WM
def prevA (ls:List LnA) (k:Nat):Option (List Int):=if k=0 then none else some (ls.getD (k - 1) lnA0).z
theorem lsOk_step {ls:List LnA} {k:Nat} (hk:k<ls.length):lsOk (prevA ls k) ((ls.drop k).map (·.x))=(lnOk (ls.getD k lnA0).x && (riseOk (prevA ls k) (ls.getD k lnA0).z && lsOk (prevA ls (k+1)) ((ls.drop (k+1)).map (·.x)))):=by
 rw[List.drop_eq_getElem_cons hk,List.map_cons];have h:ls.getD k lnA0=ls[k]:=by rw[List.getD_eq_getElem?_getD,List.getElem?_eq_getElem hk];rfl
 have h2:prevA ls (k+1)=some ls[k].z:=by unfold prevA;rw[if_neg (by omega),Nat.add_sub_cancel,h]
 rw[h,h2];simp only[lsOk];rw[Bool.and_assoc]
 rfl
def lastA (es:List EnA) (j:Nat):Int:=if j=0 then -1 else (es.getD (j - 1) enA0).e.no
theorem esOk_step {n r:Int} {es:List EnA} {j:Nat} (hj:j<es.length):esOk n r (lastA es j) ((es.drop j).map (·.e))=(enOk n r (lastA es j) (es.getD j enA0).e && esOk n r (lastA es (j+1)) ((es.drop (j+1)).map (·.e))):=by
 rw[List.drop_eq_getElem_cons hj,List.map_cons];have h:es.getD j enA0=es[j]:=by rw[List.getD_eq_getElem?_getD,List.getElem?_eq_getElem hj];rfl
 have h2:lastA es (j+1)=es[j].e.no:=by unfold lastA;rw[if_neg (by omega),Nat.add_sub_cancel,h]
 rw[h,h2]
 rfl
theorem ln_size {x:LnA} {w:World} (h:x.Ok w):(Tryz.prog.info? 63).map (·.size)=some (KLn.cs x).toArray.size:=by
 rw[List.size_toArray,show (KLn.cs x).length=19 from LnA.len h];obtain⟨i,hi,_,hs,_⟩:=info_parts infoLn;rw[hi];exact congrArg some hs
theorem ln_ones (x:LnA):(KLn.cs x).toArray.all (·.oneCell')=true:=by
 rw[Array.all_eq_true_iff_forall_mem];intro u hu;exact LnA.one x u (List.mem_toArray.1 hu)
theorem lnA0_size:(KLn.cs lnA0).toArray.size=19:=by decide
end
section
open Go.RowKit WM
def lineA (ls:List LnA) (z:List Int):Option LnA:=ls.find? fun x=>decide (x.z=z)
theorem lineA_step {ls:List LnA} {k:Nat} (z:List Int) (hk:k<ls.length):lineA (ls.drop k) z=if (ls.getD k lnA0).z=z then some (ls.getD k lnA0) else lineA (ls.drop (k+1)) z:=by
 rw[List.drop_eq_getElem_cons hk];have h:ls.getD k lnA0=ls[k]:=by rw[List.getD_eq_getElem?_getD,List.getElem?_eq_getElem hk];rfl
 rw[h];unfold lineA;by_cases hz:ls[k].z=z
 ·rw[if_pos hz,List.find?_cons_of_pos (by simpa using hz)]
 ·rw[if_neg hz,List.find?_cons_of_neg (by simpa using hz)]
theorem lineA_x (ls:List LnA) (z:List Int):(lineA ls z).map (·.x)=lfind (ls.map (·.x)) z:=by
 unfold lineA lfind
 induction ls with
 | nil=>rfl
 | cons x ls ih=>
  rw[List.map_cons];by_cases hz:x.z=z
  ·rw[List.find?_cons_of_pos (by simpa using hz),List.find?_cons_of_pos (by show decide (x.x.z=z)=true;exact decide_eq_true hz)];rfl
  ·rw[List.find?_cons_of_neg (by simpa using hz),List.find?_cons_of_neg (by show ¬ decide (x.x.z=z)=true;rw[decide_eq_true_eq];exact hz)];exact ih
theorem lineA_ok {w:World} {A:Option Addr} {c:Nat} {ls:List LnA} {z:List Int} (h:KLn.row w A c ls):(((lineA ls z).getD lnA0).Ok w):=by
 cases hl:lineA ls z with
 | none=>exact⟨rfl,by show AllBytes z16m;unfold AllBytes z16m;decide,by decide,by decide,Kind.row_nil w none 0 (by decide) (fun _=>rfl)⟩
 | some x=>exact h.2.2.2.2 x (List.mem_of_find?_eq_some hl)
def LinePost (w:World) (V:Option LnA) (e:Ending) (w':World):Prop:=e=.returned (.tuple #[KLn.v (V.getD lnA0),.bool V.isSome])∧Below w.heap.size w w'
theorem Tta39 {p:Prop} (h:p:=by
  have hp':tmps[p]?.getD undef=.pointer (some ⟨g,0,none⟩):=by simpa using hp
  have hl:=load_ln (Kind.at_blk hs) hx;simp[results,h,hp',asAddr,hl]
 ):p:=h
theorem res_ln2 {fn:Func} {p q:Tmp} (h:fn.results=#[.cell p 63,.tmp q]) {tmps:Array Value} {w:World} {g:Nat} {x:LnA} (hp:tmps.getD p undef=.pointer (some ⟨g,0,none⟩)) (hs:KLn.blk 63 w g x) (hx:x.Ok w):
  (results fn tmps).run Tryz.prog w=.ok (.tuple #[KLn.v x,tmps.getD q undef]) w:=by
 exact Tta39
theorem buildLn0 (w:World):(Instr.build 63 #[]).run Tryz.prog w=.ok (.agg (KLn.cs lnA0).toArray) w:=run_build w _ _ _ (by kernel_rfl)
theorem lnA0_ok (w:World):lnA0.Ok w:=⟨rfl,by show AllBytes z16m;unfold AllBytes z16m;decide,by decide,by decide,Kind.row_nil w none 0 (by decide) (fun _=>rfl)⟩
structure LineS (w:World) (m:MnA) (z:List Int) (X:World):Prop where
 a:MnAt X w.heap.size m
 b:KId.blk 31 X (w.heap.size+1) z
 c:KLn.blk 63 X (w.heap.size+1+1) lnA0
 below:Below w.heap.size w X
theorem LineS.go {w X Y:World} {m:MnA} {z:List Int} (h:LineS w m z X) (hb:Below X.heap.size X Y):LineS w m z Y:=
 ⟨h.a.below hb h.a.lt,Kind.blk_below h.b hb (Kind.blk_lt h.b),Kind.blk_below h.c hb (Kind.blk_lt h.c),h.below.trans (hb.mono h.below.size)⟩
theorem Tta44 {p:Prop} (h:p:=by
  exact ((MnAt.new w m).below ((Below.refl _ _).alloc Nl _) (MnAt.new w m).lt).below ((Below.refl _ _).alloc Nl _) (by rw[e2];omega)
 ):p:=h
theorem LineS.new (w:World) (m:MnA) (z:List Int):LineS w m z (((w.alloc (.cells m.cs.toArray 29)).alloc (.cells (bvals z) 31)).alloc (.cells (KLn.cs lnA0).toArray 63)):=by
 have e1:(w.alloc (.cells m.cs.toArray 29)).heap.size=w.heap.size+1:=World.size_alloc _ _;have e2:((w.alloc (.cells m.cs.toArray 29)).alloc (.cells (bvals z) 31)).heap.size=w.heap.size+1+1:=by rw[World.size_alloc,e1]
 refine⟨?_,?_,?_,?_⟩
 ·exact Tta44
 ·have h:=Kind.blk_new (K:=KId) (w.alloc (.cells m.cs.toArray 29)) z 31;rw[e1]at h;exact Kind.blk_old h _
 ·have h:=Kind.blk_new (K:=KLn) ((w.alloc (.cells m.cs.toArray 29)).alloc (.cells (bvals z) 31)) lnA0 63;rw[e2]at h;exact h
 ·exact (((Below.refl _ _).alloc Nl _).alloc (by rw[e1];omega) _).alloc (by rw[e2];omega) _
end
section
open Go.RowKit WM
def entA (es:List EnA) (no:Int):Option EnA:=es.find? fun x=>decide (x.e.no=no)
theorem entA_step {es:List EnA} {k:Nat} (no:Int) (hk:k<es.length):entA (es.drop k) no=if (es.getD k enA0).e.no=no then some (es.getD k enA0) else entA (es.drop (k+1)) no:=by
 rw[List.drop_eq_getElem_cons hk];have h:es.getD k enA0=es[k]:=by rw[List.getD_eq_getElem?_getD,List.getElem?_eq_getElem hk];rfl
 rw[h];unfold entA;by_cases hz:es[k].e.no=no
 ·rw[if_pos hz,List.find?_cons_of_pos (by simpa using hz)]
 ·rw[if_neg hz,List.find?_cons_of_neg (by simpa using hz)]
theorem entA_e (es:List EnA) (no:Int):(entA es no).map (·.e)=efind (es.map (·.e)) no:=by
 unfold entA efind
 induction es with
 | nil=>rfl
 | cons x es ih=>
  rw[List.map_cons];by_cases hz:x.e.no=no
  ·rw[List.find?_cons_of_pos (by simpa using hz),List.find?_cons_of_pos (by simpa using hz)];rfl
  ·rw[List.find?_cons_of_neg (by simpa using hz),List.find?_cons_of_neg (by simpa using hz)];exact ih
def findA (ls:List LnA) (z:List Int) (no:Int):Option EnA:=entA ((lineA ls z).getD lnA0).es no
theorem findA_e (m:MnA) (z:List Int) (no:Int):(findA m.ls z no).map (·.e)=mfind m.m z no:=by
 unfold findA mfind;rw[entA_e,show m.m.ls=m.ls.map (·.x) from rfl,← lineA_x];cases lineA m.ls z with
 | none=>rfl
 | some x=>rfl
theorem enA0_ok (w:World):enA0.Ok w:=⟨by decide,by decide,by decide,by decide,rfl,by show AllBytes z32m;unfold AllBytes z32m;decide,Kind.row_nil w none 0 (by decide) (fun _=>rfl)⟩
theorem MnA.one (x:MnA) (u:Value) (hu:u∈x.cs):u.oneCell'=true:=by
 unfold MnA.cs at hu;rcases List.mem_append.1 hu with h | h
 ·exact byte_ones _ _ h
 ·rw[List.mem_singleton]at h;rw[h]
  rfl
def KMn:Kind MnA:={ n:=33,pos:=by decide,cs:=MnA.cs,d:=mnA0,ok:=fun w x=>x.Ok w,len:=fun h=>MnA.len h,one:=MnA.one,below:=fun h hb=>MnA.below h hb}
theorem load_mn {w:World} {b:Nat} {m:MnA} (h:MnAt w b m) (hx:m.Ok w):(loadVar 29 ⟨b,0,none⟩).run Tryz.prog w=.ok m.v w:=
 Kind.at_load (K:=KMn) (Kind.at_blk (K:=KMn) (t:=29) h) (MnA.len hx) Tryz.underlying29 rfl (by obtain⟨i,hi,_,hs,_⟩:=info_parts infoMn;rw[hi];exact congrArg some hs)
theorem en_size {x:EnA} {w:World} (h:x.Ok w):(Tryz.prog.info? 68).map (·.size)=some (KEn.cs x).toArray.size:=by
 rw[List.size_toArray,show (KEn.cs x).length=37 from EnA.len h];obtain⟨i,hi,_,hs,_⟩:=info_parts infoEn;rw[hi];exact congrArg some hs
theorem en_ones (x:EnA):(KEn.cs x).toArray.all (·.oneCell')=true:=by
 rw[Array.all_eq_true_iff_forall_mem];intro u hu;exact EnA.one x u (List.mem_toArray.1 hu)
theorem enA0_size:(KEn.cs enA0).toArray.size=37:=by decide
theorem Tta40 {p:Prop} (h:p:=by
  have hp':tmps[p]?.getD undef=.pointer (some ⟨g,0,none⟩):=by simpa using hp
  have hl:=load_en (Kind.at_blk hs) hx;simp[results,h,hp',asAddr,hl]
 ):p:=h
theorem res_en2 {fn:Func} {p q:Tmp} (h:fn.results=#[.cell p 68,.tmp q]) {tmps:Array Value} {w:World} {g:Nat} {x:EnA} (hp:tmps.getD p undef=.pointer (some ⟨g,0,none⟩)) (hs:KEn.blk 68 w g x) (hx:x.Ok w):
  (results fn tmps).run Tryz.prog w=.ok (.tuple #[KEn.v x,tmps.getD q undef]) w:=by
 exact Tta40
theorem buildEn0 (w:World):(Instr.build 68 #[]).run Tryz.prog w=.ok (.agg (KEn.cs enA0).toArray) w:=run_build w _ _ _ (by kernel_rfl)
structure FindS (w:World) (m:MnA) (z:List Int) (X:World):Prop where
 a:MnAt X w.heap.size m
 b:KId.blk 31 X (w.heap.size+1) z
 c:KEn.blk 68 X (w.heap.size+1+1) enA0
 below:Below w.heap.size w X
theorem FindS.go {w X Y:World} {m:MnA} {z:List Int} (h:FindS w m z X) (hb:Below X.heap.size X Y):FindS w m z Y:=
 ⟨h.a.below hb h.a.lt,Kind.blk_below h.b hb (Kind.blk_lt h.b),Kind.blk_below h.c hb (Kind.blk_lt h.c),h.below.trans (hb.mono h.below.size)⟩
theorem FindS.new (w:World) (m:MnA) (z:List Int):FindS w m z (((w.alloc (.cells m.cs.toArray 29)).alloc (.cells (bvals z) 31)).alloc (.cells (KEn.cs enA0).toArray 68)):=by
 have e1:(w.alloc (.cells m.cs.toArray 29)).heap.size=w.heap.size+1:=World.size_alloc _ _;have e2:((w.alloc (.cells m.cs.toArray 29)).alloc (.cells (bvals z) 31)).heap.size=w.heap.size+1+1:=by rw[World.size_alloc,e1]
 refine⟨?_,?_,?_,?_⟩
 ·exact Tta44
 ·have h:=Kind.blk_new (K:=KId) (w.alloc (.cells m.cs.toArray 29)) z 31;rw[e1]at h;exact Kind.blk_old h _
 ·have h:=Kind.blk_new (K:=KEn) ((w.alloc (.cells m.cs.toArray 29)).alloc (.cells (bvals z) 31)) enA0 68;rw[e2]at h;exact h
 ·exact (((Below.refl _ _).alloc Nl _).alloc (by rw[e1];omega) _).alloc (by rw[e2];omega) _
end
end Go.Proofs.YtnlhkpmgbpfjmaaGreatDoor
