import Derived.Test.YtnlhkpmgbpfjmaaGreatDoorQe15
import Derived.Sort.MapsRangeIn
import Derived.Shelf.SlSortCmp.InsertionK
import Derived.Shelf.SlSortCmp.SmallK
import Derived.Lib.OwnBridge
/- What functions answer, part 17. -/
namespace Go.Proofs.YtnlhkpmgbpfjmaaGreatDoor
set_option linter.unusedVariables false
set_option linter.unusedSimpArgs false
set_option maxHeartbeats 16000000
set_option maxRecDepth 100000
section
section
open Go.RowKit Go.Shelf WM
theorem fill_one {z:List Int} (h:z.length=16) (n r:Int) (A:Option Addr) (l c:Nat):
  Instr.fill (fun i=>some (i*19,19)) ((Array.range (1*19)).map (rcA0.cells[· % rcA0.cells.size]!)) [(0,.agg (rcells z n r (.slice A l c)))]=some (rcells z n r (.slice A l c)):=by
 obtain⟨a,b,c',d,e,f,g,i,j,k,l',m,n',o,p,q,rfl⟩:=list16 h
 kernel_rfl
theorem run_bslice {x:RcA} (hz:x.R.z.length=16) (w:World):(Instr.buildSlice 22 1 #[(0,.agg x.cells)]).run Tryz.prog w=.ok (.slice (some ⟨w.heap.size,0,none⟩) 1 1) (w.alloc (.cells x.cells 36)):=by
 have hf:=fill_one hz x.R.n x.R.r x.A x.R.fs.length x.c;unfold Instr.buildSlice;rw[Sem.run_bind,run_underlying Tryz.underlying22 w];simp only[Result.andThen_ok,Sem.run_bind,sizeRecW,Value.cells];rw[if_neg (by decide),if_neg (by decide)];simp only[Sem.run_bind,zeroX,Result.andThen_ok,Sem.run_pure];have hf':Instr.fill (fun i=>some (i*19,19)) ((Array.range (1*19)).map (rcA0.cells[· % rcA0.cells.size]!)) (#[(0,Value.agg x.cells)]:Array (Nat×Value)).toList=some x.cells:=hf;rw[hf'];generalize x.cells=C;clear hf hf';simp only[newRow,newObj]
 rfl
section
variable {w:World} {ops:Array Oper} {rest:List Oper} {o:Oper} {a:Act} {Q:Exit→Act→World→Prop}
theorem Tta42 {p:Prop} (h:p:=by
  simp only[hop,List.map_toArray,List.map_cons,List.map_nil,hy,Sem.run_bind,run_bslice hz,Result.andThen_ok,Sem.run_pure];exact hK' _ _ hK
 ):p:=h
theorem wpList_bslice (hgd:o.guard=none) (y:Operand) (hop:o.op=.buildSlice 22 1 #[(0,y)]) (x:RcA) (hy:a.eval y=.agg x.cells) (hz:x.R.z.length=16)
  (hK:wpList Tryz.prog ops Q rest (a.put o.dst (.slice (some ⟨w.heap.size,0,none⟩) 1 1)) (w.alloc (.cells x.cells 36))):wpList Tryz.prog ops Q (o::rest) a w:=by
 refine wpList_plain hgd fun K' hK'=>?_;unfold Oper.wp execOp;exact Tta42
variable {F:Fence} {n:Nat}
theorem wpListIn_bslice (hgd:o.guard=none) (y:Operand) (hop:o.op=.buildSlice 22 1 #[(0,y)]) (x:RcA) (hy:a.eval y=.agg x.cells) (hz:x.R.z.length=16)
  (hK:wpListIn F n Tryz.prog ops Q rest (a.put o.dst (.slice (some ⟨w.heap.size,0,none⟩) 1 1)) (w.alloc (.cells x.cells 36))):wpListIn F n Tryz.prog ops Q (o::rest) a w:=by
 refine wpListIn_plain hgd fun K' hK'=>?_;unfold Oper.wpIn;refine⟨by simp[Oper.about,hop],?_⟩;rw[Oper.semAt_plain F _ _ (by rw[hop];intro c hc';cases hc')];unfold execOp;exact Tta42
theorem Tta22 {p:Prop} (h:p:=by
  unfold Oper.wpIn;refine⟨by simp[Oper.about,hop],?_⟩;rw[Oper.semAt_plain F _ _ (by rw[hop];intro c hc';cases hc')];unfold execOp;simp only[hop,hx,Instr.loadAt,Instr.sureAddr,Sem.run_bind,Sem.run_pure,Result.andThen_ok,hv];exact hK' _ _ hK
 ):p:=h
theorem wpListIn_load_by (hgd:o.guard=none) (ty:TypeId) (x:Operand) (hop:o.op=.load ty x) (ad:Addr) (hx:a.eval x=.pointer (some ad)) (v:Value) (hv:(loadVar ty ad).run Tryz.prog w=.ok v w)
  (hK:wpListIn F n Tryz.prog ops Q rest (a.put o.dst v) w):wpListIn F n Tryz.prog ops Q (o::rest) a w:=by
 refine wpListIn_plain hgd fun K' hK'=>?_;exact Tta22
theorem wpListIn_store_newx (hgd:o.guard=none) (p q:Operand) (hop:o.op=.store 36 p q)
  (b:Nat) (hb:b=w.heap.size) (hx:a.eval p=.pointer (some ⟨b,0,none⟩)) (x:RcA) (hy:a.eval q=.agg x.cells) (hz:x.R.z.length=16)
  (hK:wpListIn F n Tryz.prog ops Q rest (a.put o.dst undef) (w.alloc (.cells x.cells 36))):wpListIn F n Tryz.prog ops Q (o::rest) a (w.alloc (.cells rcA0.cells 36)):=by
 subst hb;refine wpListIn_plain hgd fun K' hK'=>?_;unfold Oper.wpIn;refine⟨by simp[Oper.about,hop],?_⟩;rw[Oper.semAt_plain F _ _ (by rw[hop];intro c hc';cases hc')];have hr:=run_storeVar_row (P:=Tryz.prog) (w.alloc (.cells rcA0.cells 36)) w.heap.size 36 36 rcA0.cells x.cells (heap_alloc_new w _) (x_size hz) ((rcells_size z16_len _ _ _).trans (cells_len hz).symm) (x_one x);unfold execOp;simp only[hop,hx,hy,Instr.storeAt,Instr.sureAddr,Sem.run_bind,Sem.run_pure,Result.andThen_ok,hr];rw[show (w.alloc (.cells rcA0.cells 36)).setRow w.heap.size x.cells=w.alloc (.cells x.cells 36) from putR w _ _];exact hK' _ _ hK
end
end
section
open Go.RowKit Go.Shelf WM
attribute [local go_sem] Oper.semAt_some
structure XR where
 x:RcA
 ok:x.R.Ok
def encX (x:XR):Array Value:=#[.agg x.1.cells]
def named (es:List RcA) (h:∀ x∈es,x.R.Ok):List XR:=es.attach.map fun x=>⟨x.1,h x.1 x.2⟩
theorem named_fst (es:List RcA) (h:∀ x∈es,x.R.Ok):(named es h).map (·.1)=es:=by
 unfold named;rw[List.map_map];exact List.attach_map_subtype_val es
theorem nodup_of_map {α β:Type} {f:α→β} {l:List α} (h:(l.map f).Nodup):l.Nodup:=by
 unfold List.Nodup at h ⊢;rw[List.pairwise_map]at h;exact h.imp fun hne e=>hne (by rw[e])
def Came (es:List RcA) (D:DataW Value) (left:Lit→Bool) (pre:List XR):Prop:=
 (∀ x∈pre,x.1∈es)∧(pre.map (·.1.R.z)).Nodup∧∀ l,left l=true↔(Maps.has D l=true∧∀ x∈pre,keyOf Tryz.prog 31 (.agg (bvals x.1.R.z))≠some l)
theorem Came.start (es:List RcA) (D:DataW Value):Came es D (Maps.has D) []:=⟨(fun x hx=>by cases hx),List.nodup_nil,fun l=>⟨fun h=>⟨h,(fun x hx=>by cases hx)⟩,fun h=>h.1⟩⟩
theorem Came.step {es:List RcA} {D:DataW Value} {left:Lit→Bool} {pre:List XR} (h:Came es D left pre) {x:XR} (hx:x.1∈es) {kl:Lit} (hk:keyOf Tryz.prog 31 (.agg (bvals x.1.R.z))=some kl) (hl:left kl=true):
  Came es D (fun z=>left z && !z.sameKey kl) (pre++[x]):=by
 obtain⟨h1,h2,h3⟩:=h;have hkl:=keyID.key hk;refine⟨fun y hy=>?_,?_,fun l=>?_⟩
 ·rcases List.mem_append.1 hy with hy | hy
  ·exact h1 y hy
  ·rw[List.mem_singleton.1 hy];exact hx
 ·rw[List.map_append,List.nodup_append];refine⟨h2,by simp,fun a ha b hb e=>?_⟩;obtain⟨y,hy,rfl⟩:=List.mem_map.1 ha;simp only[List.map_cons,List.map_nil,List.mem_singleton]at hb;have:=((h3 kl).1 hl).2 y hy;rw[e,hb]at this;exact this hk
 ·have hs:l.sameKey kl=true↔l=kl:=⟨fun h=>WideAt.sameKey_eq h,fun h=>by rw[h];exact WideAt.sameKey_self hkl⟩;have hs':(!l.sameKey kl)=true↔l≠kl:=by
   rw[Bool.not_eq_true',← Bool.not_eq_true,hs]
  rw[Bool.and_eq_true,hs',h3]
  constructor
  ·rintro⟨⟨a,b⟩,c⟩;refine⟨a,fun y hy=>?_⟩;rcases List.mem_append.1 hy with hy | hy
   ·exact b y hy
   ·rw[List.mem_singleton.1 hy,hk];exact fun e=>c (Option.some.inj e).symm
  ·rintro⟨a,b⟩;refine⟨⟨a,fun y hy=>b y (List.mem_append_left _ hy)⟩,fun e=>?_⟩;exact b x (List.mem_append_right _ (List.mem_singleton.2 rfl)) (by rw[hk,e])
theorem Came.perm {es:List RcA} {D:DataW Value} {left:Lit→Bool} {pre:List XR} (h:Came es D left pre) (hn:(es.map (·.R.z)).Nodup) (hok:∀ x∈es,x.R.Ok) (hh:∀ x∈es,∀ l,keyOf Tryz.prog 31 (.agg (bvals x.R.z))=some l→Maps.has D l=true)
  (hl:∀ l,left l=false):(pre.map (·.1)).Perm es:=by
 obtain⟨h1,h2,h3⟩:=h;have hne:es.Nodup:=nodup_of_map hn;have hnp:(pre.map (·.1)).Nodup:=nodup_of_map (f:=fun x:RcA=>x.R.z) (by rw[List.map_map];exact h2);refine (List.perm_ext_iff_of_nodup hnp hne).2 fun x=>⟨fun hx=>?_,fun hx=>?_⟩
 ·obtain⟨y,hy,rfl⟩:=List.mem_map.1 hx;exact h1 y hy
 ·obtain⟨l,hkl⟩:=key_id (hok x hx).1 (hok x hx).2;have hd:=hh x hx l hkl;rcases Classical.em (∃ y∈pre,keyOf Tryz.prog 31 (.agg (bvals y.1.R.z))=some l) with ⟨y,hy,hky⟩ | hno
  ·have hz:y.1.R.z=x.R.z:=Classical.byContradiction fun e=>key_ne hky hkl e rfl;have e1:=xat_mem hn (h1 y hy);have e2:=xat_mem hn hx;rw[hz,e2]at e1;exact List.mem_map.2 ⟨y,hy,(Option.some.inj e1).symm⟩
  ·have:=(h3 l).2 ⟨hd,fun y hy e=>hno ⟨y,hy,e⟩⟩;rw[hl l]at this;cases this
def BoxR (w:World) (Bx bm:Nat):Prop:=w.heap[Bx]?=some (.cells #[.map (some bm)] 84)
theorem BoxR.lt {w:World} {Bx bm:Nat} (h:BoxR w Bx bm):Bx<w.heap.size:=(Array.getElem?_eq_some_iff.1 h).1
theorem values1_in (n:Nat) (hn:1≤n) (l Bx bm nn:Nat) (es:List RcA) (J Jx:List XR→World→Prop) (W:World) (hJ:AbidesFrom W.heap.size J)
  (hY:∀ pre x W,J pre W→pre.length<es.length→YieldAt Fence.wide (n - 1) Tryz.prog l (encX x) W fun e W'=>
   (e=.returned (.bool true)∧J (pre++[x]) W'∧KeepsWalks W W')∨(e=.returned (.bool false)∧Jx (pre++[x]) W'))
  (hBx:BoxR W Bx bm) (hM:MRs W bm nn es) (h0:J [] W):
  CallsIn Fence.wide n Tryz.prog 114 #[.func (.yield l) #[] #[],.pointer (some ⟨Bx,0,none⟩)] W fun e W'=>(∃ v,e=.returned v) ∧
   ((∃ ys:List XR,(ys.map (·.1)).Perm es∧J ys W')∨(∃ pre:List XR,True∧Jx pre W')):=by
 have hok:∀ x∈es,x.R.Ok:=fun x hx=>(hM.rv x hx).1;obtain⟨D,hown,hsz,hkeys,_,hat,hhas⟩:=hM;have cB:W.cell? ⟨Bx,0,none⟩=some (.map (some bm)):=by rw[cell_of_row _ _ _ _ _ _ hBx];rfl
 have HH:Hid (∀ x∈es,∀ l,keyOf Tryz.prog 31 (.agg (bvals x.R.z))=some l→Maps.has D l=true):=Yy fun x hx l hl=>by
  rw[(hat _ _ hl).1,xat_mem hkeys hx];rfl
 have HV:Hid (∀ kl c yd,Maps.has D kl=true→heldR c=some yd→(∀ zd,D.atKey kl zd=yd.1)→∃ x:XR,x.1∈es∧keyOf Tryz.prog 31 (.agg (bvals x.1.R.z))=some kl∧c=.agg x.1.cells):=Yy fun kl c yd hd hc hz=>by
  obtain⟨x,hx,hk⟩:=hhas kl hd;refine⟨⟨x,hok x hx⟩,hx,hk,?_⟩;have h1:=(hat _ _ hk).2;rw[hz,xat_mem hkeys hx]at h1;simp only[heldR,Option.some.injEq]at hc;rw[← hc]at h1
  simpa using h1
 have HSZ:=Yy hsz;have HKY:=Yy hkeys;have HOK:=Yy hok;have hz:=zeroX;clear hat hhas hsz hkeys hok hBx;refine callsIn_of_wp Tryz.func114 rfl trivial ?_ rfl;simp only[Tryz.ntmps114,List.size_toArray,List.length_cons,List.length_nil,Nat.reduceAdd,Nat.reduceSub,Array.replicate_succ,Array.replicate_zero,List.push_toArray,List.append_toArray,List.nil_append,List.cons_append]
 gi_wp2_with (first
  | (gi_at_range;refine wpListIn_range_own _ rfl _ 84 rfl 31 36 keyID Tryz.underlying84 heldR bm nn _ rfl hown ?_;intro w0 hrg0 hg0 hs0))
 go_frame
 gi_loopw [4] (fun _ wr=>∃ (left:Lit→Bool) (cnt:Nat) (pre:List XR),wr.ranges Tryz.prog 31 heldR bm W.heap.size nn D left cnt∧pre.length+cnt≤Maps.size D∧Came es D left pre∧J pre wr)
  (fun _ wr=>wr.rangeLeft bm W.heap.size)
 case atStart=>
  exact⟨_,_,[],hrg0,by simp,Came.start es D,hJ [] W w0 none h0 hg0 (fun r e=>by cases e)⟩
 case round=>
  obtain⟨left,cnt,pre,hrg,hcs,hC,hJs⟩:=hrel
  gi_wp2_with (first
   | (gi_at_next;refine wpListIn_next_ranges (α:=Value) (β:=Value) _ rfl _ rfl 31 keyID heldR id id (fun key kl hk=>⟨key,rfl⟩) (fun v y hv=>⟨v,rfl⟩) bm W.heap.size nn _ _ _ rfl hrg ?_ ?_))
  ·intro hc0 hl0;gi_wp2
   go_end0
   exact⟨⟨_,rfl⟩,.inl ⟨pre,hC.perm HKY.out HOK.out HH.out hl0,hJs⟩⟩
  ·intro key c kl yd yp w2 cnt2 hkey hlk hv hatk hrg2 hlt hg2 hs2 hen
   try dsimp only[id]at hkey
   try dsimp only[id]at hv
   try dsimp only[id]at hen
   try dsimp only[id]
   obtain⟨x,hxe,hxk,rfl⟩:=HV.out kl c (yd,yp) ((hC.2.2 kl).1 hlk).1 hv hatk;have hC2:=hC.step hxe hxk hlk;have hJ2:J pre w2:=hJ _ wr w2 (some W.heap.size) hJs hg2 (fun r e=>by cases e;exact⟨Nat.le_refl _,hrg.iter_walk⟩);have hJ3:=hJ _ _ _ none hJ2 (World.grownBy_alloc w2 (.cells x.1.cells 36) none) (fun r e=>by cases e);have hrg3:=hrg2.alloc (.cells x.1.cells 36);obtain⟨fn,tmps,assign,body,hy,hR⟩:=hY pre x _ hJ3 (by rw[← HSZ.out];omega);have LX:=Yy (XAt.new (x:=x.1) w2 x.2.1).load;have ZX:=Yy x.2.1;have HRR:=Yy hR;have HC2:=Yy hC2;have HRG:=Yy hrg3;dsimp only[encX]at hy;clear hs2 hR hC2 hJ2 hJ3 hrg3 hC hJs hkey hv hatk
   gi_wp2_with (first
    | ((with_reducible refine wpListIn_store_newx (w:=w2) ?_ (.tmp 4) (.tmp 10) ?_ w2.heap.size ?_ ?_ x.1 ?_ ZX.out ?_);rfl;rfl;rfl;rfl;rfl)
    | ((with_reducible refine wpListIn_load_by ?_ 36 (.tmp 4) ?_ ⟨w2.heap.size,0,none⟩ ?_ _ LX.out ?_);rfl;rfl;rfl))
   refine HRR.out.mono ?_;rintro e W3 (⟨rfl,hJ3,hk3⟩ | ⟨rfl,hJx3⟩)
   ·have HJ3:=Yy hJ3;have HR3:=Yy (HRG.out.of_walks hk3);clear hJ3 hk3;gi_wp2;go_roundw
    case rel=>exact⟨_,cnt2,pre++[x],HR3.out,by simp;omega,HC2.out,HJ3.out⟩
    case measure=>rw[HR3.out.left_eq,hrg.left_eq];exact hlt
   ·exact Tta48
end
section
open Go.RowKit Go.Shelf WM
def insRen:Go.Shelf.Ren:=⟨fun | 20=>139 | n=>n,fun | 24=>36 | 22=>22 | 3=>3 | 25=>115 | 4=>4 | 0=>0 | n=>n,fun n=>n⟩
theorem insLay:Go.Proofs.SlLaysF0.n20 Tryz.prog insRen:=
  { mixed:=by kernel_rfl,f20:=⟨Tryz.f139.name,by decide,Tryz.func139.trans (congrArg some (by kernel_rfl))⟩,
    t0:=Tryz.underlying0,a0:=Tryz.isAgg0,z0:=Tryz.sizeOf0,v0:=Tryz.zeroValue0,
    t3:=Tryz.underlying3,a3:=Tryz.isAgg3,z3:=Tryz.sizeOf3,v3:=Tryz.zeroValue3,
    t4:=Tryz.underlying4,a4:=Tryz.isAgg4,z4:=Tryz.sizeOf4,v4:=Tryz.zeroValue4,
    t22:=Tryz.underlying22,a22:=Tryz.isAgg22,z22:=Tryz.sizeOf22,v22:=Tryz.zeroValue22,
    t25:=Tryz.underlying115,a25:=Tryz.isAgg115,z25:=Tryz.sizeOf115,v25:=Tryz.zeroValue115}
instance:Inhabited XR:=⟨⟨rcA0,⟨z16_len,z16_bytes⟩⟩⟩
def encR (x:XR):List Value:=x.1.cs
theorem encR_arr (x:XR):(encR x).toArray=x.1.cells:=by simp[encR,RcA.cs]
def cfR (x y:XR):Int:=cmpB x.1.R.z y.1.R.z
theorem ltR (x y:XR):ltOf cfR x y=lessL x.1.R.z y.1.R.z:=cmpB_less
theorem rising1_any (x y:XR) (W:World):Calls Tryz.prog 86 #[.agg x.1.cells,.agg y.1.cells] W fun e w'=>e=.returned (.int .i64 (cfR x y))∧∃ q os,w'=Go.Sort.grow (W.drewN q) os:=by
 have X1:=(XAt.new (x:=x.1) W x.2.1).old (.cells y.1.cells 36);have X2:=XAt.new (x:=y.1) (W.alloc (.cells x.1.cells 36)) y.2.1;rw[World.size_alloc]at X2;have L1:=Yy X1.load_id;have L2:=Yy X2.load_id;have HC:=Yy (compare_any x.1.R.z y.1.R.z ((W.alloc (.cells x.1.cells 36)).alloc (.cells y.1.cells 36)) x.2.2 y.2.2 x.2.1 y.2.1);unfold cfR;generalize cmpB x.1.R.z y.1.R.z=r at HC ⊢;clear X1 X2;go_enter Tryz.func86,Tryz.ntmps86;go_wp2_with (first | ((with_reducible refine YyL 31 (.tmp 5) ⟨W.heap.size,0,none⟩ L1.out ?_ ?_ ?_);rfl;rfl) | ((with_reducible refine YyL 31 (.tmp 7) ⟨(W.heap.size+1),0,none⟩ L2.out ?_ ?_ ?_);rfl;rfl));refine HC.out.mono ?_;rintro e w1 ⟨rfl,q,os,hw1⟩;have HW:Hid (∃ q os,w1=Go.Sort.grow (W.drewN q) os):=Yy ⟨q,_,by rw[hw1,Go.Sort.alloc_eq_grow,Go.Sort.alloc_eq_grow,Go.Sort.grow_grow];exact Go.Sort.grow_grow (W.drewN q) _ _⟩;clear hw1;go_wp2;go_ret;exact⟨rfl,HW.out⟩
theorem cmpR (blk off size:Nat) (w:World):CmpLays Tryz.prog 86 #[] encR 19 cfR blk off size w:=fun m os dk _ x y=>by
 have h:=rising1_any x y (sortWorldK encR 19 w blk off m dk os);rw[← encR_arr,← encR_arr]at h;exact h
theorem swoR:Go.Sort.SWO (ltOf cfR) where
 irrefl x:=by rw[ltR,il_irr]
 trans x y z h1 h2:=by rw[ltR]at *;exact il_trans h1 h2
 ntrans x y z h1 h2:=by
  rw[ltR]at *;cases h:lessL x.1.R.z z.1.R.z
  ·rfl
  ·rcases il_tri x.1.R.z y.1.R.z with h3 | h3 | h3
   ·rw[h3]at h1;cases h1
   ·rw[h3]at h;rw[h]at h2;cases h2
   ·have:=il_trans h3 h;rw[this]at h2;cases h2
def SortPost (w:World) (blk:Nat) (d:Array XR) (e:Ending) (w':World):Prop:=
 e=.returned (.tuple #[])∧∃ d' n os,Go.Sort.PermIn 0 d.size d d'∧Go.Sort.SortedIn (ltOf cfR) 0 d.size d'∧w'=sortWorldK encR 19 w blk 0 n d' os
theorem ins_any (blk cap:Nat) (d:Array XR) (w:World) (hH:Go.Sort.HoldsK encR 19 w blk 0 d) (hblk:blk<w.heap.size) (hsz:d.size≤10):
  Calls Tryz.prog 139 #[.slice (some ⟨blk,0,none⟩) d.size cap,.int .i64 0,.int .i64 d.size,.func (.func 86) #[] #[]] w (SortPost w blk d):=by
 have h:=AnyQ.insertionSortCmpFunc insLay 19 Tryz.isAgg36 sizeRecW encR (fun x=>cs_len x.2.1) (fun x=>cs_one x.1) cfR 86 #[] blk 0 cap 0 d.size d w (enters_of Tryz.func86 (by kernel_rfl) rfl) (cmpR blk 0 d.size w) hH hblk (Nat.zero_le _) Nl (by omega);exact h.mono fun e w' ⟨he,n,os,hw⟩=>
  have h2:=Go.Sort.insertionSort_holds (lt:=ltOf cfR) swoR d 0 d.size (Nat.zero_le _) Nl
  ⟨he,_,n,os,h2.1,h2.2,hw⟩
theorem ins_none (w:World) (fv:Value):Calls Tryz.prog 139 #[.slice none 0 0,.int .i64 0,.int .i64 0,fv] w fun e w'=>e=.returned (.tuple #[])∧w'=w:=by
 go_enter Tryz.func139,Tryz.ntmps139;go_wp2;refine wp_loop_rounds 1 ?_;rw[rounds_succ];go_wp2
 go_end0
 exact⟨rfl,rfl⟩
theorem bitsLen_any (n:Nat) (h:n≤10) (w:World):Calls Tryz.prog 130 #[.int .u64 n] w fun e w'=>(∃ l:Int,e=.returned (.int .i64 l))∧w'=w:=by
 have h64:∀ w:World,Calls Tryz.prog 148 #[.int .u64 n] w fun e w'=>(∃ l:Int,e=.returned (.int .i64 l))∧w'=w:=fun w=>by
  have hc:n=0∨n=1∨n=2∨n=3∨n=4∨n=5∨n=6∨n=7∨n=8∨n=9∨n=10:=by omega
  rcases hc with rfl | rfl | rfl | rfl | rfl | rfl | rfl | rfl | rfl | rfl | rfl
  all_goals
   go_enter Tryz.func148,Tryz.ntmps148;go_wp2;go_ret;exact⟨⟨_,rfl⟩,rfl⟩
 have H:=Yy h64;clear h64;go_enter Tryz.func130,Tryz.ntmps130;go_wp2_with fail;refine (H.out _).mono ?_;rintro e w1 ⟨⟨l,rfl⟩,rfl⟩;go_wp2;go_ret;exact⟨⟨_,rfl⟩,rfl⟩
theorem pdq_any (A:Option Addr) (n cap:Nat) (lim:Int) (fv:Value) (w:World) (h:n≤10) (R:Ending→World→Prop) (hr:∀ w',R (.returned (.tuple #[])) w'→R (.returned (.tuple #[])) w')
  (hi:Calls Tryz.prog 139 #[.slice A n cap,.int .i64 0,.int .i64 n,fv] w fun e w'=>e=.returned (.tuple #[])∧R e w'):
  Calls Tryz.prog 129 #[.slice A n cap,.int .i64 0,.int .i64 n,.int .i64 lim,fv] w R:=by
 have HI:=Yy hi;have t1:(n:Int)≤12:=by omega
 clear hi;go_enter Tryz.func129,Tryz.ntmps129;go_wp2;refine wp_loop_rounds 1 ?_;rw[rounds_succ];go_wp2_with fail;refine HI.out.mono ?_;rintro e w1 ⟨rfl,h1⟩;have H1:=Yy h1;clear h1;go_wp2
 (try simp only[Exit.inBlock,Exit.then])
 refine bodyPost_ret (results_none rfl _ _ _) rfl ?_;exact H1.out
theorem sortFunc_any (A:Option Addr) (n cap:Nat) (fv:Value) (w:World) (h:n≤10) (R:Ending→World→Prop)
  (hi:Calls Tryz.prog 139 #[.slice A n cap,.int .i64 0,.int .i64 n,fv] w fun e w'=>e=.returned (.tuple #[])∧R e w'):
  Calls Tryz.prog 113 #[.slice A n cap,fv] w fun e w'=>e=.returned (.tuple #[])∧R e w':=by
 have HB:=Yy (bitsLen_any n h);have HP:=Yy (fun lim=>pdq_any A n cap lim fv w h (fun e w'=>e=.returned (.tuple #[])∧R e w') (fun _ h=>h) (hi.mono fun e w' h=>⟨h.1,h⟩));have x1:IntKind.u64.wrap (n:Int)=n:=by simp[IntKind.wrap,IntKind.bits,IntKind.signed];omega
 clear hi;go_enter Tryz.func113,Tryz.ntmps113;go_wp2_with fail;refine (HB.out _).mono ?_;rintro e w1 ⟨⟨l,rfl⟩,rfl⟩;go_wp2_with fail;refine (HP.out _).mono ?_;rintro e w1 ⟨rfl,h1⟩;have H1:=Yy h1;clear h1;go_wp2
 go_end0
 exact⟨rfl,H1.out⟩
end
end
section
open Go.RowKit Go.Shelf WM
attribute [local go_sem] Oper.semAt_some
def SlAt (W:World) (g:Nat) (v:Value):Prop:=W.heap[g]?=some (.cells #[v] 22)
section
variable {W W':World} {g B:Nat} {v u:Value} {row:Option Nat}
theorem SlAt.c0 (h:SlAt W g v):W.cell? ⟨g,0,none⟩=some v:=by rw[cell_of_row _ _ _ _ _ _ h];rfl
theorem SlAt.fz (h:SlAt W g v) (j:Nat):W.frozen? ⟨g,j,none⟩=false:=frozen_of_row _ _ _ _ _ h
theorem SlAt.lt (h:SlAt W g v):g<W.heap.size:=(Array.getElem?_eq_some_iff.1 h).1
theorem SlAt.kept (h:SlAt W g v) (hg:W.grownBy W' row) (hne:some g≠row):SlAt W' g v:=(hg.block g h.lt hne).trans h
theorem SlAt.below (h:SlAt W g v) (hb:Below B W W') (hB:g<B):SlAt W' g v:=(hb.block g hB).trans h
theorem SlAt.put (h:SlAt W g v) (u:Value):SlAt (W.setCell ⟨g,0,none⟩ u) g u:=by
 unfold SlAt;rw[heap_setCell_same _ _ _ _ _ _ h]
 rfl
end
def CI (w:World) (n0 g:Nat) (pre:List XR) (W:World):Prop:=
 ∃ v,SlAt W g v∧W.ownsRow n0 36 19 v pre.length ((pre.map (·.1)).flatMap RcA.cs)∧Below w.heap.size w W∧n0≤W.heap.size
theorem CI_own {w:World} {n0 g B:Nat} (hB:w.heap.size≤B):OwnFrom B (CI w n0 g):=by
 rintro s X Y row ⟨v,h1,h2,h4,h5⟩ hg hr;have hr':∀ r,row=some r→∃ o:Obj,X.heap[r]?=some o∧o.isCells=false:=fun r e=>(hr r e).2;refine⟨v,h1.kept hg (fun e=>?_),own_turned h2 hg hr',ownFrom_below (β:=Unit) Nl hB () X Y row h4 hg hr,Nat.le_trans h5 hg.size⟩;obtain⟨o,ho,hc⟩:=hr' g e.symm;unfold SlAt at h1;rw[h1]at ho;cases ho;cases hc
theorem CI_step {w W w1:World} {n0 g k:Nat} {xs:List Value} {v v':Value} {pre:List XR}
  (hG:SlAt W g v) (hO:W.ownsRow n0 36 19 v k xs) (hB:Below w.heap.size w W) (hwg:w.heap.size≤g) (hwn:w.heap.size≤n0) (hgn:g<n0) (hnW:n0≤W.heap.size)
  (hO':w1.ownsRow n0 36 19 v' pre.length ((pre.map (·.1)).flatMap RcA.cs)) (hg:W.grownBy w1 v.ownBlock):
  SlAt w1 g v∧KeepsOthers W (w1.setCell ⟨g,0,none⟩ v')∧CI w n0 g pre (w1.setCell ⟨g,0,none⟩ v'):=by
 have hown:∀ j,v.ownBlock=some j→n0≤j:=fun j hj=>own_base hO hj;have hown':∀ j,v'.ownBlock=some j→n0≤j:=fun j hj=>own_base hO' hj;have hG1:SlAt w1 g v:=hG.kept hg (fun e=>by have:=hown g e.symm;omega);have hBw:=((hB.grown hg hB.size (fun j e=>Nat.le_trans hwn (hown j e))).setCell (p:=⟨g,0,none⟩) hwg v');refine⟨hG1,?_,v',hG1.put v',?_,hBw,Nat.le_trans hnW (Nat.le_trans hg.size (KeepsWalks.setCell w1 _ v').size)⟩
 ·refine (KeepsOthers.of_grownBy hg fun j o ej hj=>?_).trans (KeepsOthers.setCell _ _ _);exact Tta31
 ·exact hO'.kept (grownBy_setCell18 w1 g 0 v') (.inr (fun e=>by have:=hown' g e;omega))
theorem values_any (bm:Nat) (w:World):Calls Tryz.prog 85 #[.map (some bm)] w fun e w'=>
  e=.returned (.func (.func 114) #[] #[.pointer (some ⟨w.heap.size,0,none⟩)])∧w'=w.alloc (.cells #[.map (some bm)] 84):=by
 go_enter Tryz.func85,Tryz.ntmps85;go_wp2;go_ret;exact⟨rfl,rfl⟩
theorem values_stops (n:Nat) (hn:1≤n) (Bx bm nn:Nat) (es:List RcA) (w:World) (hBx:BoxR w Bx bm) (hM:MRs w bm nn es):
  SeqStopsK Fence.wide n Tryz.prog 114 #[.pointer (some ⟨Bx,0,none⟩)] encX KeepsWalks (fun ys:List XR=>(ys.map (·.1)).Perm es) (fun _=>True) es.length w:=fun l J Jx W hW hJ _ hY h0=>
 values1_in n hn l Bx bm nn es J Jx W hJ hY ((hW.block _ hBx.lt).trans hBx) (hM.below hW Nl) h0
def CollPost (w:World) (es:List RcA) (e:Ending) (w':World):Prop:=∃ (v:Value) (ys:List RcA),e=.returned v∧ys.Perm es∧(∀ y∈ys,y.R.Ok)∧w'.ownsRow w.heap.size 36 19 v ys.length (ys.flatMap RcA.cs)∧Below w.heap.size w w'
theorem appendSeq_any (Bx bm nn:Nat) (es:List RcA) (w:World) (hBx:BoxR w Bx bm) (hM:MRs w bm nn es) (hlen:es.length≤900):
  Calls Tryz.prog 128 #[.slice none 0 0,.func (.func 114) #[] #[.pointer (some ⟨Bx,0,none⟩)]] w (CollPost w es):=by
 have hb0:=(Below.refl w.heap.size w).alloc Nl (.cells #[.slice none 0 0] 22);have hG0:SlAt (w.alloc (.cells #[.slice none 0 0] 22)) w.heap.size (.slice none 0 0):=heap_alloc_new w _;have hsz:(w.alloc (.cells #[.slice none 0 0] 22)).heap.size=w.heap.size+1:=World.size_alloc _ _;have hB1:BoxR (w.alloc (.cells #[.slice none 0 0] 22)) Bx bm:=(hb0.block _ hBx.lt).trans hBx;have hM1:=hM.below hb0 Nl;have hlt:=hBx.lt;have hz:=zeroX;have HSZ:=Yy hsz;clear hBx hM hsz;refine (callsIn_wide (n:=12)).1 ?_;refine callsIn_of_wp_marks Tryz.func128 rfl trivial ?_ rfl;simp only[Tryz.ntmps128,List.size_toArray,List.length_cons,List.length_nil,Nat.reduceAdd,Nat.reduceSub,Array.replicate_succ,Array.replicate_zero,List.push_toArray,List.append_toArray,List.nil_append,List.cons_append];refine wpIn_wide.2 ?_;go_wp2_with fail;generalize hw1:w.alloc (.cells #[.slice none 0 0] 22)=w1 at *;refine (wpIn_wide (n:=12)).1 ?_;refine wpIn_rangeFunc_ownH (F:=Fence.wide) (n:=12) rfl (by omega) (gf:=114) (lb:=#[.pointer (some ⟨Bx,0,none⟩)]) rfl trivial (enters_of Tryz.func114 (by kernel_rfl) rfl)
  (values_stops 11 (by omega) Bx bm nn es w1 hB1 hM1)
  (fun h k=>h.trans k)
  (fun W l o o' hl h hc hw=>?kb)
  (Below.refl _ _) (fun _=>rfl)
  (CI w w1.heap.size w.heap.size)
  (fun _ _ _=>False)
  (CI_own (by have:=HSZ.out;omega))
  (fun _ _ _ _ _ hs _ _=>hs)
  ⟨.slice none 0 0,hG0,World.ownsRow_nil _ _ _ _,hb0,Nat.le_refl _⟩
  (fun x a' W=>∃ Bc,w1.heap.size≤Bc∧XAt W Bc x.1∧a' = { tmps:=#[Value.slice none 0 0,.func (.func 114) #[] #[.pointer (some ⟨Bx,0,none⟩)],.pointer (some ⟨w.heap.size,0,none⟩),undef,.slice none 0 0,.pointer (some ⟨Bc,0,none⟩),.func (.func 114) #[] #[.pointer (some ⟨Bx,0,none⟩)],.agg x.1.cells,undef,undef,undef,undef,undef],defers:=[]})
  (fun x a' _ X Y row hs hg hr=>by
   obtain⟨Bc,h1,h2,h3⟩:=hs;refine⟨Bc,h1,h2.same (hg.block Bc h2.lt (fun e=>?_)),h3⟩;obtain⟨o,ho,hc⟩:=(hr Bc e.symm).2;rw[h2.2]at ho;cases ho;cases hc)
  ?assign ?body ?done ?stop
 case kb=>
  refine⟨by rw[World.putObj_size];exact Nat.le_refl _,fun k o1 hk ho=>?_⟩;have hne:k≠l:=by
   rintro rfl;rw[h]at hk;cases hk;rw[hw]at ho;cases ho
  exact (World.putObj_heap_other hne).trans hk
 case assign=>
  rintro l pre x W K hI hK;have hn:=XAt.new (x:=x.1) W x.2.1;have hI2:=(CI_own (w:=w) (n0:=w1.heap.size) (g:=w.heap.size) (B:=w1.heap.size) (by have:=HSZ.out;omega)).alloc (.cells x.1.cells 36) hI;have hnW:w1.heap.size≤W.heap.size:=by obtain⟨v,_,_,_,h⟩:=hI;exact h
  have hK2:=hK _ _ ((KeepsOthers.alloc W (.cells x.1.cells 36)).from _) (KeepsOthers.alloc W (.cells x.1.cells 36)).walks hI2 ⟨_,hnW,hn,rfl⟩;have ZX:=Yy x.2.1;clear hK hn hI hI2;unfold encX
  gi_wp2_with (first
    | ((with_reducible refine wpListIn_store_newx (w:=W) ?_ (.tmp 5) (.tmp 7) ?_ W.heap.size ?_ ?_ x.1 ?_ ZX.out ?_);rfl;rfl;rfl;rfl;rfl))
  exact hK2
 case body=>
  rintro l pre x a' W hl hr ⟨v,hG,hO,hB,hn⟩ ⟨Bc,hBc,hX,rfl⟩ hlt2;have g0:=hG.c0;have LX:=Yy hX.load;have ZX:=Yy x.2.1;have hGA:=Yy (hG.below ((Below.refl W.heap.size W).alloc Nl (.cells x.1.cells 36)) hG.lt);have HOA:=Yy (hO.alloc (.cells x.1.cells 36));have HBA:=Yy (hB.alloc hB.size (.cells x.1.cells 36));have HKA:=Yy (KeepsOthers.alloc W (.cells x.1.cells 36));have HCELL:Hid (∀ j u,x.1.cs[j]?=some u→(W.alloc (.cells x.1.cells 36)).cell? ((⟨W.heap.size,0,none⟩:Addr).add j)=some u):=Yy fun j u hu=>by
   have hj:j<19:=by have:=(List.getElem?_eq_some_iff.1 hu).1;rwa[cs_len x.2.1]at this
   rw[Addr.add_lit,(XAt.new (x:=x.1) W x.2.1).rec.2 j hj];exact hu
  have HONE:=Yy (cs_one x.1);have HL:=Yy (cs_len x.2.1);obtain⟨i0,hi,hz0,hz1',hz2'⟩:=info_parts infoRec;clear hG hO hB hX
  gi_wp2_with (first
    | ((with_reducible refine wpListIn_load_by ?_ 36 (.tmp 5) ?_ ⟨Bc,0,none⟩ ?_ _ LX.out ?_);rfl;rfl;rfl)
    | ((with_reducible refine wpListIn_bslice ?_ (.tmp 9) ?_ x.1 ?_ ZX.out ?_);rfl;rfl;rfl)
    | (gi_at_builtin;refine wpListIn_append_own _ rfl _ _ 22 rfl w1.heap.size 36 i0 zrc 19 56 Tryz.underlying22 hi hz0 hz1' hz2' zrc_size (by decide) _ pre.length _ rfl HOA.out ⟨W.heap.size,0,none⟩ 1 1 x.1.cs rfl HL.out HCELL.out HONE.out (by simp only[maxLen];omega) (by omega) (by rw[World.size_alloc];omega) ?_;intro v' w2 hown' hgrow _;obtain⟨q1,q2,q3⟩:=CI_step (w:=w) (pre:=pre++[x]) hGA.out HOA.out HBA.out Nl (by have:=HSZ.out;omega) (by have:=HSZ.out;omega) (by rw[World.size_alloc];omega) (by rw[List.map_append,List.flatMap_append,List.length_append];simpa using hown') hgrow;obtain⟨g',cap',rfl⟩:=ownsRow_succ hown';have r0:=q1.c0;have f0:=q1.fz 0;have Q2X:=Yy q2;have Q3X:=Yy q3;clear q1 q2 q3 hown' hgrow))
  exact⟨(HKA.out.trans Q2X.out).from _,(HKA.out.trans Q2X.out).walks,Q3X.out⟩
 case done=>
  rintro D ys W hD hp ⟨v,hG,hO,hB,hn⟩ hK;have g0:=hG.c0;have HP:Hid (CollPost w es (.returned v) (W.putObj D (.deferred none))):=Yy ⟨v,ys.map (·.1),rfl,hp,(fun y hy=>by obtain⟨x,_,rfl⟩:=List.mem_map.1 hy;exact x.2),by
   have h2:=ownsRow_putObj hO (.deferred none) hK rfl;rw[List.length_map];exact⟨h2.1,by
    rcases h2.2 with h3 | ⟨g',cap,cur,h3,h4,h5⟩
    ·exact .inl h3
    ·exact .inr ⟨g',cap,cur,h3,by have:=HSZ.out;omega,h5⟩⟩,hB.trans (belowK_b (w:=w) Nl _ D _ _ (by have:=HSZ.out;omega) hK rfl rfl)⟩
  have HK:=Yy hK;clear hG hO hB hK;go_wp2;refine⟨by simp,.inl ⟨_,_,rfl,run_takeDeferred HK.out,?_⟩⟩;exact⟨v,results_tmp (t:=4) rfl _ _ _,HP.out⟩
 case stop=>
  rintro D c pre W _ _ h _;exact h.elim
theorem collect_any (Bx bm nn:Nat) (es:List RcA) (w:World) (hBx:BoxR w Bx bm) (hM:MRs w bm nn es) (hlen:es.length≤900):
  Calls Tryz.prog 112 #[.func (.func 114) #[] #[.pointer (some ⟨Bx,0,none⟩)]] w (CollPost w es):=by
 have HA:=Yy (appendSeq_any Bx bm nn es w hBx hM hlen);clear hBx hM;go_enter Tryz.func112,Tryz.ntmps112;go_wp2_with fail;refine HA.out.mono ?_;rintro e w1 ⟨v,ys,rfl,h1,h2,h3,h4⟩;have HH:Hid (ys.Perm es∧(∀ y∈ys,y.R.Ok)∧w1.ownsRow w.heap.size 36 19 v ys.length (ys.flatMap RcA.cs)∧Below w.heap.size w w1):=Yy ⟨h1,h2,h3,h4⟩;clear h1 h2 h3 h4;go_wp2;go_ret;exact⟨v,ys,rfl,HH.out⟩
end
section
open Go.RowKit Go.Shelf WM
theorem below_grown {B:Nat} {w w1:World} (h:Below B w w1) (os:Array Obj) (hB:B≤w1.heap.size):Below B w (Go.Sort.grow w1 os):=
 h.trans ⟨rfl,rfl,rfl,by rw[Go.Sort.size_grow];exact Nat.le_add_right _ _,fun k hk=>by
  show (w1.heap++os)[k]?=w1.heap[k]?;rw[Array.getElem?_append_left (by omega)]⟩
theorem below_sorted {B:Nat} {w w1:World} {g n:Nat} {d:Array XR} {os:Array Obj} (h:Below B w w1) (hg:B≤g) (hB:B≤w1.heap.size):Below B w (sortWorldK encR 19 w1 g 0 n d os):=by
 unfold sortWorldK Go.Sort.putRowK;exact below_grown (Lib.below_putRow h hg) os (by rw[Go.Sort.size_putRow];exact hB)
theorem holds_own {w:World} {base g cap:Nat} {ys:List XR} (h:w.ownsRow base 36 19 (.slice (some ⟨g,0,none⟩) ys.length cap) ys.length ((ys.map (·.1)).flatMap RcA.cs)):Go.Sort.HoldsK encR 19 w g 0 ys.toArray∧g<w.heap.size∧base≤g∧ys.length≤cap∧cap≤maxLen:=by
 rcases h.2 with ⟨h1,_⟩ | ⟨g',cap',cur,h1,hb,hg,hn,hm,hs,ht⟩
 ·cases h1
 ·simp only[Value.slice.injEq,Option.some.injEq,Addr.mk.injEq,and_true,true_and]at h1;obtain⟨rfl,rfl⟩:=h1;refine⟨fun t htl=>?_,(Array.getElem?_eq_some_iff.1 hg).1,hb,hn,hm⟩;rw[Go.Sort.size_flatK]at htl;have hlen:ys.toArray.size=ys.length:=by simp
  rw[hlen]at htl;have hi:t / 19<ys.length:=by omega
  have hz:∀ x∈ys.map (·.1),x.R.z.length=16:=fun x hx=>by obtain⟨y,_,rfl⟩:=List.mem_map.1 hx;exact y.2.1
  refine⟨?_,frozen_of_row _ _ _ _ _ hg⟩;rw[Nat.zero_add,cell_of_row w g _ cur _ (0,0) hg];have h2:((ys.map (·.1)).flatMap RcA.cs)[t]?=((ys.map (·.1)).getD (t / 19) rcA0).cs[t % 19]?:=by
   rw[← recs_at hz (by rw[List.length_map];exact hi) (Nat.mod_lt _ (by omega))]
   congr 1
   omega
  have h3:cur[t]?=((ys.map (·.1)).getD (t / 19) rcA0).cs[t % 19]?:=by
   rw[← h2,← ht,List.getElem?_take,if_pos (by omega)];simp
  rw[h3,Go.Sort.get_flatK _ _ _ _ (by rw[hlen];omega)];have h4:(ys.map (·.1)).getD (t / 19) rcA0=(ys.toArray[t / 19]!).1:=by
   simp[List.getD,hi]
  rw[h4];have hcl:t % 19<(encR ys.toArray[t / 19]!).length:=by
   rw[show (encR ys.toArray[t / 19]!).length=19 from cs_len (ys.toArray[t / 19]!).2.1];exact Nat.mod_lt _ (by omega)
  show (encR ys.toArray[t / 19]!)[t % 19]?=some (encR ys.toArray[t / 19]!)[t % 19]!;rw[List.getElem?_eq_getElem hcl,List.getElem!_eq_getElem?_getD,List.getElem?_eq_getElem hcl]
  rfl
theorem own_slice2 {W:World} {base k:Nat} {v:Value} {xs:List Value} (h:W.ownsRow base 36 19 v k xs):(v=.slice none 0 0∧k=0)∨∃ g c,v=.slice (some ⟨g,0,none⟩) k c:=by
 rcases h.2 with ⟨rfl,rfl⟩ | ⟨g,cap,cur,rfl,_⟩
 ·exact .inl ⟨rfl,rfl⟩
 ·exact .inr ⟨g,cap,rfl⟩
theorem rise_of {d d':Array XR} (hn:(d.toList.map (·.1.R.z)).Nodup) (hp:Go.Sort.PermIn 0 d.size d d') (hs:Go.Sort.SortedIn (ltOf cfR) 0 d.size d'):d'.size=d.size∧d'.toList.Perm d.toList∧Rise (d'.toList.map (·.1.R)):=by
 obtain⟨h1,_,h3⟩:=hp;have h4:d'.toList.Perm d.toList:=by
  have e1:d'.extract 0 d.size=d':=by rw[← h1];simp
  have e2:d.extract 0 d.size=d:=by simp
  rw[e1,e2]at h3;exact h3
 refine⟨h1,h4,?_⟩;have hn':(d'.toList.map (·.1.R.z)).Nodup:=(h4.map _).nodup_iff.2 hn;unfold Rise;rw[List.pairwise_map,List.pairwise_iff_getElem];intro i j hi hj hij;have hi':i<d'.size:=by simpa using hi
 have hj':j<d'.size:=by simpa using hj
 have h5:=hs i j (Nat.zero_le _) hij (by omega);rw[getElem!_pos d' i hi',getElem!_pos d' j hj',ltR]at h5;have hne:d'[i].1.R.z≠d'[j].1.R.z:=fun e=>by
  unfold List.Nodup at hn';rw[List.pairwise_map,List.pairwise_iff_getElem]at hn';exact hn' i j hi hj hij (by simpa using e)
 simp only[Array.getElem_toList];rcases il_tri d'[i].1.R.z d'[j].1.R.z with h | h | h
 ·exact h
 ·exact absurd h hne
 ·rw[h]at h5;cases h5
theorem rs_of_holds {w:World} {g cap:Nat} {d:Array XR} (h:Go.Sort.HoldsK encR 19 w g 0 d) (hg:g<w.heap.size) (hc:d.size≤cap) (hm:cap≤maxLen) (hv:∀ x∈d.toList,RvAt w x.1):
  RsAt w (some ⟨g,0,none⟩) cap (d.toList.map (·.1)):=by
 refine⟨by simpa using hc,hm,(fun e=>by cases e),fun _=>⟨g,0,rfl,hg,fun i hi=>?_⟩,fun x hx=>?_⟩
 ·have hi':i<d.size:=by simpa using hi
  have e1:(d.toList.map (·.1)).getD i rcA0=(d[i]!).1:=by
   rw[getElem!_pos d i hi'];simp[List.getD,hi']
  rw[e1];refine⟨(d[i]!).2.1,fun j hj=>?_⟩;have h2:=(h.cell hi' hj).1;rw[h2];have hcl:j<(encR d[i]!).length:=by rw[show (encR d[i]!).length=19 from cs_len (d[i]!).2.1];exact hj
  rw[List.getElem!_eq_getElem?_getD,List.getElem?_eq_getElem hcl];show _=(encR d[i]!)[j]?;rw[List.getElem?_eq_getElem hcl]
  rfl
 ·obtain⟨y,hy,rfl⟩:=List.mem_map.1 hx;exact hv y hy
def RisingPost (w:World) (es:List RcA) (e:Ending) (w':World):Prop:=
 ∃ (A:Option Addr) (n c:Nat) (ys:List RcA),e=.returned (.slice A n c)∧ys.length=n∧RsAt w' A c ys∧(ys.map (·.R)).Perm (es.map (·.R))∧Rise (ys.map (·.R))∧Below w.heap.size w w'
theorem sortedFunc_any (Bx bm nn:Nat) (es:List RcA) (w:World) (hBx:BoxR w Bx bm) (hM:MRs w bm nn es) (hlen:es.length≤10):
  Calls Tryz.prog 84 #[.func (.func 114) #[] #[.pointer (some ⟨Bx,0,none⟩)],.func (.func 86) #[] #[]] w (RisingPost w es):=by
 have HC:=Yy (collect_any Bx bm nn es w hBx hM (by omega));have HK:=Yy hM.keys;have HR:=Yy hM.rv;clear hBx hM;go_enter Tryz.func84,Tryz.ntmps84;go_wp2_with fail;refine HC.out.mono ?_;rintro e w1 ⟨v,ys,rfl,hp,hok,ho,hb⟩;have hlen2:ys.length≤10:=by rw[hp.length_eq];exact hlen
 have hky:(ys.map (·.R.z)).Nodup:=(hp.map _).nodup_iff.2 HK.out;rcases own_slice2 ho with ⟨rfl,hn⟩ | ⟨g,cap,rfl⟩
 ·have hy:ys=[]:=List.eq_nil_of_length_eq_zero hn;subst hy;have hes:es=[]:=List.eq_nil_of_length_eq_zero (by rw[← hp.length_eq];rfl);subst hes;have HS:=Yy (sortFunc_any none 0 0 (.func (.func 86) #[] #[]) w1 (by omega) (fun e w'=>w'=w1) ((ins_none w1 _).mono fun e w' h=>h));have HB:=Yy hb;clear hp hok ho hb hky hn hlen2;go_wp2_with fail;refine HS.out.mono ?_;rintro e w2 ⟨rfl,rfl⟩;go_wp2;go_ret;exact⟨none,0,0,[],rfl,rfl,RsAt.nil _ _ _ (by decide) (fun _=>rfl),List.Perm.refl _,List.Pairwise.nil,HB.out⟩
 ·have hxs:=named_fst ys hok;generalize named ys hok=xs at hxs;subst hxs;rw[List.length_map]at ho hlen2 ⊢;obtain⟨hH,hg,hbg,hnc,hcm⟩:=holds_own ho;have hsz:xs.toArray.size=xs.length:=by simp
  have HI:=ins_any g cap xs.toArray w1 hH hg (by rw[hsz];exact hlen2);rw[hsz]at HI;have HS:=Yy (sortFunc_any (some ⟨g,0,none⟩) xs.length cap (.func (.func 86) #[] #[]) w1 hlen2 (SortPost w1 g xs.toArray) (HI.mono fun e w' h=>⟨h.1,h⟩));have FIN:Hid (∀ e w2,SortPost w1 g xs.toArray e w2→RisingPost w es (.returned (.slice (some ⟨g,0,none⟩) xs.length cap)) w2):=Yy fun e w2 ⟨_,d',n,os,hpm,hst,hw⟩=>by
   obtain⟨k1,k2,k3⟩:=rise_of (by simpa [Function.comp_def] using hky) hpm hst;have hB2:Below w.heap.size w w2:=by rw[hw];exact below_sorted hb hbg hb.size
   have hH2:Go.Sort.HoldsK encR 19 w2 g 0 d':=by rw[hw];exact holdsK_sortWorldK_c encR 19 w1 g 0 xs.toArray d' n os hH hg k1
   have hg2:g<w2.heap.size:=by rw[hw];exact Nat.lt_of_lt_of_le hg (size_sortWorldK_c encR 19 w1 g 0 n d' os)
   have hp2:(d'.toList.map (·.1)).Perm es:=(k2.map _).trans (by simpa using hp);refine⟨_,_,_,d'.toList.map (·.1),rfl,by simp[k1],?_,hp2.map _,by rw[List.map_map];exact k3,hB2⟩;refine rs_of_holds hH2 hg2 (by rw[k1,hsz];exact hnc) hcm fun x hx=>?_;exact (HR.out x.1 (hp2.mem_iff.1 (List.mem_map_of_mem hx))).below hB2 Nl
  clear hp hok ho hb hky hH HI hsz hbg hg;go_wp2_with fail;refine HS.out.mono ?_;rintro e w2 ⟨rfl,h2⟩;have HF:=Yy (FIN.out _ _ h2);clear h2;go_wp2;go_ret;exact HF.out
theorem brising_any (bm nn:Nat) (es:List RcA) (w:World) (hM:MRs w bm nn es) (hlen:es.length≤10):
  Calls Tryz.prog 54 #[.map (some bm)] w (RisingPost w es):=by
 have hb:=(Below.refl w.heap.size w).alloc Nl (.cells #[.map (some bm)] 84);have HS:=Yy (sortedFunc_any w.heap.size bm nn es (w.alloc (.cells #[.map (some bm)] 84)) (heap_alloc_new w _) (hM.below hb Nl) hlen);have HB:=Yy hb;clear hM hb;go_enter Tryz.func54,Tryz.ntmps54;go_wp2_with fail;refine (values_any bm w).mono ?_;rintro e w1 ⟨rfl,rfl⟩;go_wp2_with fail;refine HS.out.mono ?_;rintro e w2 ⟨A,n,c,ys,rfl,h1,h2,h3,h4,h5⟩;have FIN:Hid (RisingPost w es (.returned (.slice A n c)) w2):=Yy ⟨A,n,c,ys,rfl,h1,h2,h3,h4,HB.out.trans (h5.mono HB.out.size)⟩;clear h1 h2 h3 h4 h5;go_wp2;go_ret;exact FIN.out
end
end Go.Proofs.YtnlhkpmgbpfjmaaGreatDoor
