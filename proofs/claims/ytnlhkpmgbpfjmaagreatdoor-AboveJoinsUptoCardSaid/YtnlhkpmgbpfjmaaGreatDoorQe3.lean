import Derived.Test.YtnlhkpmgbpfjmaaGreatDoorQe1
import Derived.Lib.AppendZeros
import Derived.Deep.WholeRow
/- What functions answer, part 3. -/
namespace Go.Proofs.YtnlhkpmgbpfjmaaGreatDoor
set_option linter.unusedVariables false
set_option linter.unusedSimpArgs false
set_option maxHeartbeats 16000000
set_option maxRecDepth 100000
section
open Go.RowKit WM
structure Kind (α:Type) where
 n:Nat
 pos:0<n
 cs:α→List Value
 d:α
 ok:World→α→Prop
 len:∀ {w:World} {x:α},ok w x→(cs x).length=n
 one:∀ (x:α) (u:Value),u∈cs x→u.oneCell'=true
 below:∀ {w w':World} {x:α},ok w x→Below w.heap.size w w'→ok w' x
section
variable {α:Type} (K:Kind α)
def Kind.v (x:α):Value:=.agg (K.cs x).toArray
def Kind.at (w:World) (b o:Nat) (x:α):Prop:=∀ j,j<K.n→w.cell? ⟨b,o+j,none⟩=(K.cs x)[j]?
def Kind.row (w:World) (A:Option Addr) (c:Nat) (xs:List α):Prop:=
 xs.length≤c∧c≤maxLen∧(A=none→c=0) ∧
 (0<xs.length→∃ b off,A=some ⟨b,off,none⟩∧b<w.heap.size∧∀ i,i<xs.length→K.at w b (off+i*K.n) (xs.getD i K.d))∧∀ x∈xs,K.ok w x
def Kind.blk (t:TypeId) (w:World) (b:Nat) (x:α):Prop:=w.heap[b]?=some (.cells (K.cs x).toArray t)
end
section
variable {α:Type} {K:Kind α} {w w':World} {A:Option Addr} {c:Nat} {xs ys:List α} {x:α} {b o:Nat} {t te ts:TypeId}
theorem Kind.at_same (h:K.at w b o x) (hb:w'.heap[b]?=w.heap[b]?):K.at w' b o x:=fun j hj=>(World.cell?_of_block (a:=⟨b,o+j,none⟩) hb).trans (h j hj)
theorem Kind.at_blk (h:K.blk t w b x):K.at w b 0 x:=fun j hj=>by rw[Nat.zero_add,cell_of_row _ _ _ _ _ _ h,List.getElem?_toArray]
theorem Kind.row_below {B:Nat} (h:K.row w A c xs) (hb:Below B w w') (hB:w.heap.size≤B):K.row w' A c xs:=by
 obtain⟨h1,h2,h3,h4,h5⟩:=h;refine⟨h1,h2,h3,fun h0=>?_,fun x hx=>K.below (h5 x hx) (hb.mono hB)⟩;obtain⟨b,off,rfl,hlt,hc⟩:=h4 h0;exact⟨b,off,rfl,Nat.lt_of_lt_of_le hlt hb.size,fun i hi=>Kind.at_same (hc i hi) (hb.block b (Nat.lt_of_lt_of_le hlt hB))⟩
theorem Kind.row_nil (w:World) (A:Option Addr) (c:Nat) (hc:c≤maxLen) (h:A=none→c=0):K.row w A c []:=⟨Nat.zero_le _,hc,h,fun h=>absurd h (by simp),fun x hx=>by cases hx⟩
theorem Kind.row_ok (h:K.row w A c xs) {i:Nat} (hi:i<xs.length):K.ok w (xs.getD i K.d):=by
 rw[List.getD_eq_getElem?_getD,List.getElem?_eq_getElem hi];exact h.2.2.2.2 _ (List.getElem_mem hi)
theorem Kind.blk_lt (h:K.blk t w b x):b<w.heap.size:=(Array.getElem?_eq_some_iff.1 h).1
theorem Kind.blk_below {B:Nat} (h:K.blk t w b x) (hb:Below B w w') (hB:b<B):K.blk t w' b x:=by unfold Kind.blk;rw[hb.block b hB];exact h
theorem Kind.blk_new (w:World) (x:α) (t:TypeId):K.blk t (w.alloc (.cells (K.cs x).toArray t)) w.heap.size x:=heap_alloc_new w _
theorem Kind.blk_old (h:K.blk t w b x) (o:Obj):K.blk t (w.alloc o) b x:=Kind.blk_below h ((Below.refl w.heap.size w).alloc Nl o) (Kind.blk_lt h)
theorem Kind.flat_one (xs:List α):∀ u∈xs.flatMap K.cs,u.oneCell'=true:=fun u hu=>by
 obtain⟨f,_,hf⟩:=List.mem_flatMap.1 hu;exact K.one f u hf
theorem Kind.flat_len:∀ {xs:List α},(∀ x∈xs,K.ok w x)→(xs.flatMap K.cs).length=xs.length*K.n
 | [],_=>by simp
 | f::fs,h=>by rw[List.flatMap_cons,List.length_append,Kind.flat_len (fun x hx=>h x (List.mem_cons_of_mem _ hx)),List.length_cons,K.len (h f List.mem_cons_self),Nat.succ_mul];omega
theorem Kind.flat_at:∀ {xs:List α},(∀ x∈xs,K.ok w x)→∀ {i j:Nat},i<xs.length→j<K.n→(xs.flatMap K.cs)[i*K.n+j]?=(K.cs (xs.getD i K.d))[j]?
 | [],_,i,j,hi,_=>by simp at hi
 | x::xs,h,i,j,hi,hj=>by
  have hx:=K.len (h x List.mem_cons_self);cases i with
  | zero=>
   simp only[List.flatMap_cons,Nat.zero_mul,Nat.zero_add,List.getD_cons_zero];rw[List.getElem?_append_left (by rw[hx];omega)]
  | succ i=>
   simp only[List.flatMap_cons,List.getD_cons_succ];have e:(i+1)*K.n+j=i*K.n+j+K.n:=by rw[Nat.succ_mul];omega
   rw[List.getElem?_append_right (by rw[hx,e];omega),hx,e,Nat.add_sub_cancel];exact Kind.flat_at (fun y hy=>h y (List.mem_cons_of_mem _ hy)) (by simpa using hi) hj
theorem Kind.row_own {base:Nat} (h:w.ownsRow base te K.n (.slice A xs.length c) xs.length (xs.flatMap K.cs)) (hx:∀ x∈xs,K.ok w x):K.row w A c xs:=by
 rcases h.2 with ⟨h1,h2⟩ | ⟨g,cap,cur,h1,hb,hg,hn,hm,hs,ht⟩
 ·simp only[Value.slice.injEq]at h1;obtain⟨rfl,h3,rfl⟩:=h1;exact⟨by omega,by decide,fun _=>rfl,fun h0=>by omega,hx⟩
 ·simp only[Value.slice.injEq]at h1;obtain⟨rfl,_,rfl⟩:=h1;refine⟨hn,hm,fun h=>(by cases h),fun h0=>⟨g,0,rfl,(Array.getElem?_eq_some_iff.1 hg).1,fun i hi j hj=>?_⟩,hx⟩;rw[cell_of_row w g _ cur _ (0,0) hg,← Kind.flat_at hx hi hj,← ht,List.getElem?_take,if_pos (Nat.lt_of_lt_of_le (show i*K.n+j<(i+1)*K.n by rw[Nat.succ_mul];omega) (Nat.mul_le_mul_right _ hi))];simp
theorem Kind.row_one (h:K.ok (w.alloc (.cells (K.cs x).toArray t)) x):K.row (w.alloc (.cells (K.cs x).toArray t)) (some ⟨w.heap.size,0,none⟩) 1 [x]:=by
 refine⟨Nat.le_refl _,(show 1≤maxLen by decide),(fun e=>by cases e),fun _=>⟨w.heap.size,0,rfl,by rw[World.size_alloc];omega,fun i hi=>?_⟩,fun y hy=>by rw[List.mem_singleton.1 hy];exact h⟩;obtain rfl:i=0:=by simpa using hi
 rw[Nat.zero_mul];exact Kind.at_blk (Kind.blk_new w x t)
theorem Kind.at_load {P:Program} {d:TypeDesc} (h:K.at w b o x) (hk:(K.cs x).length=K.n) (hu:P.underlying te=some d) (hd:(match d with | .struct _ | .array _ _=>true | _=>false)=true) (hi:(P.info? te).map (·.size)=some K.n):
  (loadVar te ⟨b,o,none⟩).run P w=.ok (K.v x) w:=by
 have hl:(loadCells ⟨b,o,none⟩ K.n).run P w=.ok (K.cs x).toArray w:=by
  have h1:=run_loadCells_list (P:=P) w ⟨b,o,none⟩ (K.cs x) (fun j u hu=>by
   rw[Addr.add_lit,h j (by have:=(List.getElem?_eq_some_iff.1 hu).1;rw[hk]at this;exact this)];exact hu)
  rw[hk]at h1;exact h1
 cases hq:P.info? te with
 | none=>simp[hq]at hi
 | some i=>
  have hs:i.size=K.n:=by simpa [hq] using hi
  have hagg:(isAgg te).run P w=.ok true w:=by
   unfold isAgg;rw[Sem.run_bind,run_underlying hu w];cases d<;>simp at hd ⊢
  simp[loadVar,Sem.run_bind,hagg,sizeOf,typeInfo,hq,hs,hl,Kind.v]
theorem Kind.ix {P:Program} {off len cap i:Nat} (ht:P.underlying ts=some (.slice (P.elem ts))) (hs:∀ w,(sizeOf (P.elem ts)).run P w=.ok K.n w) (h:i<len) (I:Int) (e:I=i) (w:World):
  (Instr.indexAt ts (.slice (some ⟨b,off,none⟩) len cap) (.int .i64 I)).run P w=.ok (.pointer (some ⟨b,off+i*K.n,none⟩)) w:=by
 subst e;rw[run_indexAt_slice w ts _ len cap .i64 i ht,if_pos (by omega),hs];simp[Result.andThen,Addr.add_lit]
end
section
variable {α:Type} {K:Kind α} {P:Program} {ops:Array Oper} {rest:List Oper} {o:Oper} {a:Act} {Q:Exit→Act→World→Prop}
theorem Tta53 {p:Prop} (h:p:=by
  intro v' w' h1 h2 _;exact h v' w' (by rw[List.flatMap_append];exact h1) h2
 ):p:=h
theorem wpList_append_K (w:World) (hgd:o.guard=none) (s x:Operand) (t:TypeId)
  (ho:o.op=.call { callee:=.builtin .append,args:=#[s,x],argTypes:=#[t,t]})
  (base:Nat) (e:TypeId) (i:TypeInfo) (zv:Value) (bytes:Nat) (ht:P.underlying t=some (.slice e)) (hi:P.info? e=some i) (hz:i.zero=some zv) (hsize:i.size=K.n) (hby:i.bytes=bytes) (hzs:zv.cells.size=K.n) (hb9:bytes≤1000)
  (v:Value) (n:Nat) (gs:List α) (hs:a.eval s=v) (hown:w.ownsRow base e K.n v n (gs.flatMap K.cs))
  (A:Option Addr) (m c:Nat) (fs:List α) (hx:a.eval x=.slice A m c) (hr:K.row w A c fs) (hl:fs.length=m) (hlen:n+m≤10000000) (hbase:base≤w.heap.size)
  (h:∀ v' w',w'.ownsRow base e K.n v' (n+m) ((gs++fs).flatMap K.cs)→w.grownBy w' v.ownBlock→wpList P ops Q rest (a.put o.dst v') w'):wpList P ops Q (o::rest) a w:=by
 have fin:∀ ad:Addr,A=some ad→(∀ j u,(fs.flatMap K.cs)[j]?=some u→w.cell? (ad.add j)=some u)→wpList P ops Q (o::rest) a w:=by
  intro ad hA hc;subst hA;refine wpList_append_own w hgd s x t ho base e i zv K.n bytes ht hi hz hsize hby hzs K.pos v n _ hs hown ad m c (fs.flatMap K.cs) hx (by rw[Kind.flat_len (fun x hxx=>hr.2.2.2.2 x hxx),hl]) hc (Kind.flat_one fs) (by simp only[maxLen];omega) (Nat.le_trans (Nat.mul_le_mul hlen hb9) (by omega)) hbase ?_;exact Tta53
 obtain⟨h1,h2,h3,h4,h5⟩:=hr;by_cases hn:fs=[]
 ·subst hn;cases A with
  | none=>
   have hc0:=h3 rfl;simp at hl;subst hl;subst hc0;refine wpList_append_own_none hgd s x t ho base e i K.n ht hi v n _ hs hown hx ?_;exact h v w (by simpa using hown) (World.grownBy.refl w _)
  | some ad=>exact fin ad rfl (fun j u hj=>by simp at hj)
 ·obtain⟨b,off,hA,_,hc⟩:=h4 (List.length_pos_iff.2 hn);refine fin _ hA (fun j u hj=>?_);have hjl:=(List.getElem?_eq_some_iff.1 hj).1;rw[Kind.flat_len h5]at hjl;have hij:j=j / K.n*K.n+j % K.n:=by rw[Nat.mul_comm];exact (Nat.div_add_mod j K.n).symm
  have hi':j / K.n<fs.length:=Nat.div_lt_of_lt_mul (by rw[Nat.mul_comm];exact hjl);have hm:=Nat.mod_lt j K.pos;rw[hij,Kind.flat_at h5 hi' hm]at hj;have hq:=hc (j / K.n) hi' (j % K.n) hm;rw[Addr.add_lit];rw[Nat.add_assoc,← hij]at hq;exact hq.trans hj
end
section
variable {α:Type} {K:Kind α} {P:Program} {ops:Array Oper} {o:Oper} {a:Act} {KK:Act→World→Prop} {Q:Exit→Act→World→Prop} {E:Prop}
theorem step_append_K {X:World} (hgd:o.guard=none) (s x:Operand) (t:TypeId)
  (ho:o.op=.call { callee:=.builtin .append,args:=#[s,x],argTypes:=#[t,t]})
  (base:Nat) (e:TypeId) (i:TypeInfo) (zv:Value) (bytes:Nat) (ht:P.underlying t=some (.slice e)) (hi:P.info? e=some i) (hz:i.zero=some zv) (hsize:i.size=K.n) (hby:i.bytes=bytes) (hzs:zv.cells.size=K.n) (hb9:bytes≤1000)
  (v:Value) (L:List α) (y:α) (hs:a.eval s=v) (hown:(X.alloc (.cells (K.cs y).toArray e)).ownsRow base e K.n v L.length (L.flatMap K.cs)) (hL:L.length≤90000) (hyl:(K.cs y).length=K.n)
  (hx:a.eval x=.slice (some ⟨X.heap.size,0,none⟩) 1 1) (hbase:base≤(X.alloc (.cells (K.cs y).toArray e)).heap.size)
  (h:∀ v' w',w'.ownsRow base e K.n v' (L.length+1) ((L++[y]).flatMap K.cs)→(X.alloc (.cells (K.cs y).toArray e)).grownBy w' v.ownBlock→KK (a.put o.dst v') w'):
  if Region.wanted o (yielded ops a.tmps)=true then Oper.wp P o a (X.alloc (.cells (K.cs y).toArray e)) KK Q else E:=by
 have hw:Region.wanted o (yielded ops a.tmps)=true:=by simp[Region.wanted,hgd]
 rw[if_pos hw];refine wp_append_own _ s x t ho base e i zv K.n bytes ht hi hz hsize hby hzs K.pos v L.length _ hs hown ⟨X.heap.size,0,none⟩ 1 1 (K.cs y) hx (by rw[hyl,Nat.one_mul]) (fun j u hu=>by
  rw[Addr.add_lit,cell_of_row _ _ _ _ _ _ (heap_alloc_new X _),Nat.zero_add,List.getElem?_toArray];exact hu) (K.one y) (by simp only[maxLen];omega) (Nat.le_trans (Nat.mul_le_mul (show L.length+1≤10000000 by omega) hb9) (by omega)) hbase ?_
 intro v' w' h1 h2 _;refine h v' w' ?_ h2;rw[List.flatMap_append,List.flatMap_singleton];exact h1
end
theorem foldl_put (l:List Value):∀ (pre rest:List Value),rest.length=l.length→((l.zipIdx pre.length).foldl (fun cs (x:Value×Nat)=>cs.setIfInBounds (0+x.2) x.1) (pre++rest).toArray)=(pre++l).toArray:=by
 induction l with
 | nil=>intro pre rest h;rw[List.eq_nil_of_length_eq_zero h];rfl
 | cons u l ih=>
  intro pre rest h;cases rest with
  | nil=>simp at h
  | cons r rest=>
   rw[List.zipIdx_cons,List.foldl_cons];have e:(pre++r::rest).toArray.setIfInBounds (0+pre.length) u=((pre++[u])++rest).toArray:=by
    rw[Z2,Nat.zero_add,List.set_append_right _ _ Nl,Nat.sub_self,Z3,List.append_assoc]
    rfl
   dsimp only;rw[e];have h2:=ih (pre++[u]) rest (by simpa using h);rw[List.length_append,List.length_singleton]at h2;rw[h2,List.append_assoc]
   rfl
theorem fill_whole {n:Nat} {cells:Array Value} {v:Value} (h:v.cells.size=n) (hc:cells.size=n):Instr.fill (fun i=>some (i*n,n)) cells [(0,v)]=some v.cells:=by
 subst h;unfold Instr.fill;simp only[Nat.zero_mul];have hcond:(decide (v.cells.size≠v.cells.size) || decide (0+v.cells.size>cells.size))=false:=by rw[hc];simp
 rw[hcond];simp only[Bool.false_eq_true,if_false];unfold Instr.fill
 congr 1
 obtain⟨l,hl⟩:∃ l,v.cells=l.toArray:=⟨v.cells.toList,by simp⟩;obtain⟨r,hr⟩:∃ r,cells=r.toArray:=⟨cells.toList,by simp⟩;rw[hl,hr]at hc ⊢;have h3:=foldl_put l [] r (by simpa using hc)
 simpa using h3
section
variable {α:Type} {K:Kind α} {P:Program} {ops:Array Oper} {rest:List Oper} {o:Oper} {a:Act} {Q:Exit→Act→World→Prop} {KK:Act→World→Prop} {E:Prop}
theorem run_bsliceK {x:α} {ts te:TypeId} {zv:Value} (hx:(K.cs x).length=K.n) (hu:P.underlying ts=some (.slice te)) (hs:∀ w,(sizeOf te).run P w=.ok K.n w) (hz:∀ w,(zeroValue te).run P w=.ok zv w) (hn:K.n≤1000) (w:World):
  (Instr.buildSlice ts 1 #[(0,K.v x)]).run P w=.ok (.slice (some ⟨w.heap.size,0,none⟩) 1 1) (w.alloc (.cells (K.cs x).toArray te)):=by
 have hp:=K.pos;unfold Instr.buildSlice;rw[Sem.run_bind,run_underlying hu w];simp only[Result.andThen_ok,Sem.run_bind,hs];rw[if_neg (by omega),if_neg (by omega)];simp only[Sem.run_bind,hz,Result.andThen_ok,Sem.run_pure];have hf:=fill_whole (v:=K.v x) (n:=K.n) (cells:=(Array.range (1*K.n)).map (zv.cells[· % zv.cells.size]!)) (by rw[Kind.v,Value.cells,List.size_toArray];exact hx) (by simp);have hf':Instr.fill (fun i=>some (i*K.n,K.n)) ((Array.range (1*K.n)).map (zv.cells[· % zv.cells.size]!)) (#[(0,K.v x)]:Array (Nat×Value)).toList=some (K.v x).cells:=hf;rw[hf'];rw[show (K.v x).cells=(K.cs x).toArray from rfl];generalize (K.cs x).toArray=C;simp only[newRow,newObj]
 rfl
theorem wpList_bsliceK {w:World} {ts te:TypeId} {zv:Value} (hgd:o.guard=none) (y:Operand) (hop:o.op=.buildSlice ts 1 #[(0,y)]) (x:α) (hy:a.eval y=K.v x) (hx:(K.cs x).length=K.n) (hu:P.underlying ts=some (.slice te)) (hs:∀ w,(sizeOf te).run P w=.ok K.n w) (hz:∀ w,(zeroValue te).run P w=.ok zv w) (hn:K.n≤1000)
  (hK:wpList P ops Q rest (a.put o.dst (.slice (some ⟨w.heap.size,0,none⟩) 1 1)) (w.alloc (.cells (K.cs x).toArray te))):wpList P ops Q (o::rest) a w:=by
 refine wpList_plain hgd fun K' hK'=>?_;unfold Oper.wp execOp;simp only[hop,List.map_toArray,List.map_cons,List.map_nil,hy,Sem.run_bind,run_bsliceK hx hu hs hz hn,Result.andThen_ok,Sem.run_pure];exact hK' _ _ hK
theorem step_bsliceK {X:World} {ts te:TypeId} {zv:Value} (hgd:o.guard=none) (y:Operand) (hop:o.op=.buildSlice ts 1 #[(0,y)]) (x:α) (hy:a.eval y=K.v x) (hx:(K.cs x).length=K.n) (hu:P.underlying ts=some (.slice te)) (hs:∀ w,(sizeOf te).run P w=.ok K.n w) (hz:∀ w,(zeroValue te).run P w=.ok zv w) (hn:K.n≤1000)
  (h:KK (a.put o.dst (.slice (some ⟨X.heap.size,0,none⟩) 1 1)) (X.alloc (.cells (K.cs x).toArray te))):
  if Region.wanted o (yielded ops a.tmps)=true then Oper.wp P o a X KK Q else E:=by
 have hw:Region.wanted o (yielded ops a.tmps)=true:=by simp[Region.wanted,hgd]
 rw[if_pos hw];unfold Oper.wp execOp;simp only[hop,List.map_toArray,List.map_cons,List.map_nil,hy,Sem.run_bind,run_bsliceK hx hu hs hz hn,Result.andThen_ok,Sem.run_pure];exact h
end
theorem wpList_build_at {P:Program} {ops:Array Oper} {rest:List Oper} {o:Oper} {a:Act} {w:World} {Q:Exit→Act→World→Prop} (hw:Region.wanted o (yielded ops a.tmps)=true) (t:TypeId) (parts:Array (Nat×Operand)) (ho:o.op=.build t parts)
  (ps:Array (Nat×Value)) (hp:parts.map (fun x=>(x.1,a.eval x.2))=ps) (v:Value) (hv:(Instr.build t ps).run P w=.ok v w)
  (h:wpList P ops Q rest (a.put o.dst v) w):wpList P ops Q (o::rest) a w:=
 BigFrame.wpList_want hw fun _ hK=>by
  unfold Oper.wp execOp;simp only[ho];have e:parts.map (fun x=>match x with | (i,x)=>(i,a.eval x))=ps:=hp;rw[e];simp only[Sem.run_bind,Sem.run_pure,Result.andThen_ok,hv];exact hK _ _ h
theorem wpList_load_at {P:Program} {ops:Array Oper} {rest:List Oper} {o:Oper} {a:Act} {w:World} {Q:Exit→Act→World→Prop} (hw:Region.wanted o (yielded ops a.tmps)=true) (ty:TypeId) (x:Operand) (ho:o.op=.load ty x)
  (ad:Addr) (hx:a.eval x=.pointer (some ad)) (v:Value) (hv:(loadVar ty ad).run P w=.ok v w)
  (h:wpList P ops Q rest (a.put o.dst v) w):wpList P ops Q (o::rest) a w:=
 BigFrame.wpList_want hw fun _ hK=>by
  unfold Oper.wp execOp;simp only[ho,hx,Instr.loadAt,Instr.sureAddr,Sem.run_bind,Sem.run_pure,Result.andThen_ok,hv];exact hK _ _ h
theorem exec_load_at {P:Program} {o:Oper} {ρ:Operand→Value} {w:World} (ty:TypeId) (x:Operand) (ho:o.op=.load ty x) (ad:Addr) (hx:ρ x=.pointer (some ad)) {v:Value} (hv:(loadVar ty ad).run P w=.ok v w):
  (execOp ρ o).run P w=.ok (.value v) w:=by
 unfold execOp;simp only[ho,hx,Instr.loadAt,Instr.sureAddr,Sem.run_bind,Sem.run_pure,Result.andThen_ok,hv]
theorem exec_build_at {P:Program} {o:Oper} {ρ:Operand→Value} {w:World} (t:TypeId) (parts:Array (Nat×Operand)) (ho:o.op=.build t parts) (ps:Array (Nat×Value)) (hp:parts.map (fun x=>(x.1,ρ x.2))=ps) {v:Value}
  (hv:(Instr.build t ps).run P w=.ok v w):(execOp ρ o).run P w=.ok (.value v) w:=by
 unfold execOp;simp only[ho];have e:parts.map (fun x=>match x with | (i,x)=>(i,ρ x))=ps:=hp;rw[e];simp[hv]
theorem wpList_store_new {P:Program} {ops:Array Oper} {rest:List Oper} {o:Oper} {a:Act} {w:World} {Q:Exit→Act→World→Prop} (hgd:o.guard=none) (t:TypeId) (p y:Operand) (hop:o.op=.store t p y) (hp:a.eval p=.pointer (some ⟨w.heap.size,0,none⟩))
  (Z X:Array Value) (hy:a.eval y=.agg X) (hi:(P.info? t).map (·.size)=some X.size) (hold:Z.size=X.size) (h1:X.all (·.oneCell')=true) (hK:wpList P ops Q rest (a.put o.dst undef) (w.alloc (.cells X t))):wpList P ops Q (o::rest) a (w.alloc (.cells Z t)):=
 wpList_store_row hgd t p y hop w.heap.size X hp hy t Z (heap_alloc_new w _) hi hold h1 (by rw[World.setRow_alloc_new w _ _ _];exact hK)
theorem exec_eql_at {P:Program} {o:Oper} {ρ:Operand→Value} {w:World} (t:TypeId) (x y:Operand) (u:TypeId) (ho:o.op=.binOp .eql t x y u) {xs ys:Array Value} (hx:ρ x=.agg xs) (hy:ρ y=.agg ys) (hm:P.eqGuardType P.depth t=false)
  {b:Bool} (h:(Op.equalIn 10000 t (.agg xs) (.agg ys)).run P w=.ok b w):(execOp ρ o).run P w=.ok (.value (.bool b)) w:=by
 unfold execOp;simp only[ho,hx,hy,Sem.run_bind,run_eqGuard_agg (hm:=hm),run_eql_struct,h,Result.andThen_ok,Sem.run_pure]
theorem exec_neq_at {P:Program} {o:Oper} {ρ:Operand→Value} {w:World} (t:TypeId) (x y:Operand) (u:TypeId) (ho:o.op=.binOp .neq t x y u) {xs ys:Array Value} (hx:ρ x=.agg xs) (hy:ρ y=.agg ys) (hm:P.eqGuardType P.depth t=false)
  {b:Bool} (h:(Op.equalIn 10000 t (.agg xs) (.agg ys)).run P w=.ok b w):(execOp ρ o).run P w=.ok (.value (.bool !b)) w:=by
 unfold execOp;simp only[ho,hx,hy,Sem.run_bind,run_eqGuard_agg (hm:=hm),run_neq_struct,h,Result.andThen_ok,Sem.run_pure]
theorem drop_cons9 {α:Type} (d:α) {xs:List α} {k:Nat} (h:k<xs.length):xs.drop k=xs.getD k d::xs.drop (k+1):=by
 rw[List.drop_eq_getElem_cons h,List.getD_eq_getElem?_getD,List.getElem?_eq_getElem h]
 rfl
def KPostN {α:Type} (K:Kind α) (te:TypeId) (w:World) (L:List α) (e:Ending) (w':World):Prop:=∃ A c,e=.returned (.slice A L.length c)∧K.row w' A c L∧Below w.heap.size w w'∧∀ p:Addr,A=some p→∃ cur,w'.heap[p.block]?=some (.cells cur te)
theorem kpostN_nil {α:Type} {K:Kind α} {te:TypeId} {w w':World} (hb:Below w.heap.size w w'):KPostN K te w [] (.returned (.slice none 0 0)) w':=⟨none,0,rfl,Kind.row_nil w' none 0 (by decide) (fun _=>rfl),hb,fun _ h=>by cases h⟩
theorem kpostN_own {α:Type} {K:Kind α} {w w':World} {v:Value} {L:List α} {te:TypeId} (ho:w'.ownsRow w.heap.size te K.n v L.length (L.flatMap K.cs)) (hok:∀ x∈L,K.ok w' x) (hb:Below w.heap.size w w'):KPostN K te w L (.returned v) w':=by
 rcases ho.2 with ⟨rfl,h0⟩ | ⟨g,cap,cur,rfl,_,hg,_⟩
 ·have hn:L=[]:=List.eq_nil_of_length_eq_zero h0;subst hn;exact kpostN_nil hb
 ·exact⟨_,cap,rfl,Kind.row_own (K:=K) ho hok,hb,fun a h=>by cases h;exact⟨cur,hg⟩⟩
end
end Go.Proofs.YtnlhkpmgbpfjmaaGreatDoor
