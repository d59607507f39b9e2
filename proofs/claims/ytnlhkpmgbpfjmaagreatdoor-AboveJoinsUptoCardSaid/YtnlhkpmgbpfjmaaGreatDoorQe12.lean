import Derived.Test.YtnlhkpmgbpfjmaaGreatDoorQe11
import Derived.Lib.Bytealg
import Derived.Sort.Grow
/- What functions answer, part 12. -/
namespace Go.Proofs.YtnlhkpmgbpfjmaaGreatDoor
set_option linter.unusedVariables false
set_option linter.unusedSimpArgs false
set_option maxHeartbeats 16000000
set_option maxRecDepth 100000
section
section
open Go.RowKit WM
def cmpB:List Int→List Int→Int
 | [],[]=>0
 | [],_::_=>-1
 | _::_,[]=>1
 | a::x,b::y=>if a<b then -1 else if b<a then 1 else cmpB x y
def toU (xs:List Int):List UInt8:=xs.map fun z=>z.toNat.toUInt8
theorem u8_lt {a b:Int} (ha:0≤a∧a≤255) (hb:0≤b∧b≤255):(a.toNat.toUInt8<b.toNat.toUInt8)↔a<b:=by
 rw[UInt8.lt_iff_toNat_lt];have h1:a.toNat.toUInt8.toNat=a.toNat:=by simp[Nat.toUInt8,UInt8.toNat_ofNat'];omega
 have h2:b.toNat.toUInt8.toNat=b.toNat:=by simp[Nat.toUInt8,UInt8.toNat_ofNat'];omega
 rw[h1,h2];omega
theorem cmp_toU:∀ {xs ys:List Int},AllBytes xs→AllBytes ys→Lib.compareBytes (toU xs) (toU ys)=cmpB xs ys
 | [],[],_,_=>rfl
 | [],_::_,_,_=>rfl
 | _::_,[],_,_=>rfl
 | a::x,b::y,hx,hy=>by
  have ha:=hx a (by simp);have hb:=hy b (by simp);have ih:=cmp_toU (xs:=x) (ys:=y) (fun z hz=>hx z (by simp[hz])) (fun z hz=>hy z (by simp[hz]));show (if a.toNat.toUInt8<b.toNat.toUInt8 then (-1:Int) else if b.toNat.toUInt8<a.toNat.toUInt8 then 1 else Lib.compareBytes (toU x) (toU y))=_;rw[ih,cmpB];simp only[u8_lt ha hb,u8_lt hb ha]
theorem cmpB_less:∀ {xs ys:List Int},decide (cmpB xs ys<0)=lessL xs ys
 | [],[]=>rfl
 | [],_::_=>rfl
 | _::_,[]=>rfl
 | a::x,b::y=>by
  rw[cmpB,lessL];by_cases h:a<b
  ·simp[h]
  ·rw[if_neg h];by_cases h2:b<a
   ·rw[if_pos h2];have:(a == b)=false:=by rw[beq_eq_false_iff_ne];omega
    simp[h,this]
   ·rw[if_neg h2,cmpB_less];have:(a == b)=true:=by rw[beq_iff_eq];omega
    simp[h,this]
theorem loadBytes_row {w:World}:∀ (xs:List Int) (b off:Nat) (acc:List UInt8),(∀ i,i<xs.length→w.cell? ⟨b,off+i,none⟩=some (.int .u8 (xs.getD i 0))) →
  (Extern.Bytes.loadBytes ⟨b,off,none⟩ xs.length ⟨acc.toArray⟩).run Tryz.prog w=.ok ⟨(acc++toU xs).toArray⟩ w
 | [],b,off,acc,_=>by simp[Extern.Bytes.loadBytes,toU]
 | x::xs,b,off,acc,h=>by
  have h0:=h 0 (by simp);rw[Nat.add_zero]at h0;have hr:=loadBytes_row xs b (off+1) (acc++[x.toNat.toUInt8]) (fun i hi=>by
   have:=h (i+1) (by simp;omega);rw[show off+1+i=off+(i+1) by omega]
   simpa using this)
  have e:(ByteArray.mk acc.toArray).push x.toNat.toUInt8=⟨(acc++[x.toNat.toUInt8]).toArray⟩:=by simp[ByteArray.push]
  have hl:(load ⟨b,off,none⟩).run Tryz.prog w=.ok (.int .u8 x) w:=by
   rw[List.getD_cons_zero]at h0;go_simp
  rw[List.length_cons,Extern.Bytes.loadBytes,Sem.run_bind,hl];simp only[Result.andThen,e,Addr.add_lit];rw[hr];simp[toU]
theorem run_compareBytes {w:World} {xs ys:List Int} {b1 o1 c1 b2 o2 c2:Nat} (hx:AllBytes xs) (hy:AllBytes ys)
  (h1:∀ i,i<xs.length→w.cell? ⟨b1,o1+i,none⟩=some (.int .u8 (xs.getD i 0))) (h2:∀ i,i<ys.length→w.cell? ⟨b2,o2+i,none⟩=some (.int .u8 (ys.getD i 0))):
  (Extern.BytealgCompare.compare #[.slice (some ⟨b1,o1,none⟩) xs.length c1,.slice (some ⟨b2,o2,none⟩) ys.length c2]).run Tryz.prog w=.ok (.int .i64 (cmpB xs ys)) w:=by
 have l1:(Extern.Bytes.bytesOf (.slice (some ⟨b1,o1,none⟩) xs.length c1)).run Tryz.prog w=.ok ⟨(toU xs).toArray⟩ w:=loadBytes_row xs b1 o1 [] h1;have l2:(Extern.Bytes.bytesOf (.slice (some ⟨b2,o2,none⟩) ys.length c2)).run Tryz.prog w=.ok ⟨(toU ys).toArray⟩ w:=loadBytes_row ys b2 o2 [] h2
 change Sem.run Tryz.prog (do pure (goInt (Extern.BytealgCompare.cmp (← Extern.Bytes.bytesOf (.slice (some ⟨b1,o1,none⟩) xs.length c1)) (← Extern.Bytes.bytesOf (.slice (some ⟨b2,o2,none⟩) ys.length c2))))) w=_
 simp only[Sem.run_bind,l1,l2,Sem.run_pure,Result.andThen,Lib.cmp_eq,cmp_toU hx hy]
 rfl
theorem bcompare_any {w:World} {xs ys:List Int} {n1 n2 b1 o1 c1 b2 o2 c2:Nat} (hx:AllBytes xs) (hy:AllBytes ys) (l1:xs.length=n1) (l2:ys.length=n2)
  (h1:∀ i,i<xs.length→w.cell? ⟨b1,o1+i,none⟩=some (.int .u8 (xs.getD i 0))) (h2:∀ i,i<ys.length→w.cell? ⟨b2,o2+i,none⟩=some (.int .u8 (ys.getD i 0))):
  Calls Tryz.prog 115 #[.slice (some ⟨b1,o1,none⟩) n1 c1,.slice (some ⟨b2,o2,none⟩) n2 c2] w fun e w'=>e=.returned (.int .i64 (cmpB xs ys))∧w'=w:=by
 subst l1 l2;have HR:=run_compareBytes (c1:=c1) (c2:=c2) hx hy h1 h2;generalize cmpB xs ys=r at HR ⊢;generalize xs.length=n1 at *;generalize ys.length=n2 at *;clear hx hy h1 h2;go_enter Tryz.func115,Tryz.ntmps115;go_wp2;rw[run_callFunc_extern Tryz.func131 (by kernel_rfl) (by kernel_rfl) (by kernel_rfl) (e:=Extern.BytealgCompare.compare) (by kernel_rfl),HR];simp only[Result.andThen];rw[Oper.upon_value];go_wp2;go_ret;exact⟨rfl,rfl⟩
def IdAt (w:World) (b:Nat) (z:List Int):Prop:=z.length=16∧w.heap[b]?=some (.cells (bvals z) 31)
theorem wpList_load_by16 {P:Program} {ops:Array Oper} {rest:List Oper} {o:Oper} {a:Act} {w:World} {Q:Exit→Act→World→Prop} (hw:Region.wanted o (yielded ops a.tmps)=true) (ty:TypeId) (x:Operand) (ho:o.op=.load ty x)
  (ad:Addr) (hx:a.eval x=.pointer (some ad)) (v:Value) (hv:(loadVar ty ad).run P w=.ok v w)
  (h:wpList P ops Q rest (a.put o.dst v) w):wpList P ops Q (o::rest) a w:=
 BigFrame.wpList_want hw fun _ hK=>by
  unfold Oper.wp execOp;simp only[ho,hx,Instr.loadAt,Instr.sureAddr,Sem.run_bind,Sem.run_pure,Result.andThen_ok,hv];exact hK _ _ h
theorem sizeID16:(Tryz.prog.info? 31).map (·.size)=some 16:=by kernel_rfl
theorem load_arr16 {w:World} {b:Nat} {z:List Int} (h:IdAt w b z):(loadVar 31 ⟨b,0,none⟩).run Tryz.prog w=.ok (.agg (bvals z)) w:=
 run_loadVar_row w b 31 31 _ (0,0) _ h.2 Tryz.underlying31 rfl (by rw[show (bvals z).size=16 by simp[bvals,h.1]];exact sizeID16)
theorem IdAt.cell {w:World} {b:Nat} {z:List Int} (h:IdAt w b z):∀ i,i<z.length→w.cell? ⟨b,0+i,none⟩=some (.int .u8 (z.getD i 0)):=fun i hi=>by
 rw[Nat.zero_add,cell_of_row _ _ _ _ _ _ h.2];simp[bvals,List.getD,List.getElem?_eq_getElem hi]
theorem compare_any (x y:List Int) (w:World) (hx:AllBytes x) (hy:AllBytes y) (lx:x.length=16) (ly:y.length=16):
  Calls Tryz.prog 87 #[.agg (bvals x),.agg (bvals y)] w fun e w'=>e=.returned (.int .i64 (cmpB x y))∧∃ q os,w'=Go.Sort.grow (w.drewN q) os:=by
 have I1:IdAt ((w.alloc (.cells (bvals x) 31)).alloc (.cells (bvals y) 31)) w.heap.size x:=⟨lx,by rw[Below.heap_alloc _ _ _ (by simp)];exact heap_alloc_new w _⟩;have I2:IdAt ((w.alloc (.cells (bvals x) 31)).alloc (.cells (bvals y) 31)) (w.heap.size+1) y:=⟨ly,by rw[← World.size_alloc w (.cells (bvals x) 31)];exact heap_alloc_new _ _⟩;have HC:=Yy (fun q=>bcompare_any (w:=((w.alloc (.cells (bvals x) 31)).alloc (.cells (bvals y) 31)).drewN q) (c1:=16) (c2:=16) hx hy lx ly (fun i hi=>I1.cell i hi) (fun i hi=>I2.cell i hi));generalize cmpB x y=r at HC ⊢;clear I1 I2 hx hy lx ly;generalize bvals x=X at *;generalize bvals y=Y at *;go_enter Tryz.func87,Tryz.ntmps87;go_wp2_with fail
 go_quiet (refine Calls.quiet_of_same (HC.out _))
 go_wp2;go_ret;exact⟨rfl,_,_,by rw[Go.Sort.alloc_eq_grow,Go.Sort.alloc_eq_grow,Go.Sort.grow_grow];rfl⟩
theorem below_grow {w:World} (q:Nat) (os:Array Obj):Below w.heap.size w (Go.Sort.grow (w.drewN q) os):=
 ⟨rfl,rfl,rfl,by rw[Go.Sort.size_grow];exact Nat.le_add_right _ _,fun k hk=>by
  show (w.heap++os)[k]?=w.heap[k]?;rw[Array.getElem?_append_left hk]⟩
theorem bless_any (x y:List Int) (w:World) (hx:AllBytes x) (hy:AllBytes y) (lx:x.length=16) (ly:y.length=16):
  Calls Tryz.prog 59 #[.agg (bvals x),.agg (bvals y)] w fun e w'=>e=.returned (.bool (lessL x y))∧Below w.heap.size w w':=by
 have I1:IdAt ((w.alloc (.cells (bvals x) 31)).alloc (.cells (bvals y) 31)) w.heap.size x:=⟨lx,by rw[Below.heap_alloc _ _ _ (by simp)];exact heap_alloc_new w _⟩;have I2:IdAt ((w.alloc (.cells (bvals x) 31)).alloc (.cells (bvals y) 31)) (w.heap.size+1) y:=⟨ly,by rw[← World.size_alloc w (.cells (bvals x) 31)];exact heap_alloc_new _ _⟩;have L1:=Yy (load_arr16 I1);have L2:=Yy (load_arr16 I2);have HC:=Yy (compare_any x y ((w.alloc (.cells (bvals x) 31)).alloc (.cells (bvals y) 31)) hx hy lx ly);have HV:=Yy (cmpB_less (xs:=x) (ys:=y));have HB:=Yy (((Below.refl w.heap.size w).alloc Nl (.cells (bvals x) 31)).alloc (by simp) (.cells (bvals y) 31));generalize cmpB x y=r at HC HV;generalize lessL x y=v at HV ⊢;clear I1 I2 hx hy lx ly;generalize bvals x=X at *;generalize bvals y=Y at *;go_enter Tryz.func59,Tryz.ntmps59;go_wp2_with (first | ((with_reducible refine wpList_load_by16 (o:=⟨some 5,.load 31 (.tmp 2),_,_,_,_⟩) ?_ 31 (.tmp 2) ?_ ⟨w.heap.size,0,none⟩ ?_ _ L1.out ?_);rfl;rfl;rfl) | ((with_reducible refine wpList_load_by16 (o:=⟨some 6,.load 31 (.tmp 3),_,_,_,_⟩) ?_ 31 (.tmp 3) ?_ ⟨(w.heap.size+1),0,none⟩ ?_ _ L2.out ?_);rfl;rfl;rfl));refine HC.out.mono ?_;rintro e w1 ⟨rfl,q,os,rfl⟩;have HB2:=Yy (HB.out.trans ((below_grow q os).mono HB.out.size));generalize Go.Sort.grow _ os=w9 at HB2 ⊢;go_wp2;go_ret;exact⟨by rw[← HV.out];rfl,HB2.out⟩
end
section
open Go.RowKit WM
structure RcA where
 R:Rc
 A:Option Addr
 c:Nat
def rcA0:RcA:=⟨rc0,none,0⟩
def RcA.s (x:RcA):Value:=.slice x.A x.R.fs.length x.c
def RcA.cells (x:RcA):Array Value:=rcells x.R.z x.R.n x.R.r x.s
def RcA.cs (x:RcA):List Value:=x.cells.toList
def RcA.v (x:RcA):Value:=.agg x.cells
def RvAt (w:World) (x:RcA):Prop:=x.R.Ok∧FsAt w x.A x.c x.R.fs
theorem RvAt.below {w w':World} {B:Nat} {x:RcA} (h:RvAt w x) (hb:Below B w w') (hB:w.heap.size≤B):RvAt w' x:=⟨h.1,h.2.below hb hB⟩
theorem RvAt.len {w:World} {x:RcA} (h:RvAt w x):x.R.z.length=16:=h.1.1
theorem cells_len {x:RcA} (h:x.R.z.length=16):x.cells.size=19:=rcells_size h _ _ _
theorem cs_len {x:RcA} (h:x.R.z.length=16):x.cs.length=19:=by rw[RcA.cs,Array.length_toList,cells_len h]
theorem cs_one (x:RcA):∀ u∈x.cs,u.oneCell'=true:=by
 have h:=rcells_one (z:=x.R.z) (n:=x.R.n) (r:=x.R.r) (v:=x.s) rfl;rw[Array.all_eq_true_iff_forall_mem]at h;exact fun u hu=>h u (by simpa [RcA.cs,RcA.cells] using hu)
def RecAt (w:World) (b o:Nat) (x:RcA):Prop:=x.R.z.length=16∧∀ j,j<19→w.cell? ⟨b,o+j,none⟩=x.cs[j]?
theorem RecAt.of_row {w:World} {b:Nat} {x:RcA} {t:TypeId} (hz:x.R.z.length=16) (h:w.heap[b]?=some (.cells x.cells t)):RecAt w b 0 x:=⟨hz,fun j hj=>by
 rw[Nat.zero_add,cell_of_row _ _ _ _ _ _ h,RcA.cs,Array.getElem?_toList]⟩
section
variable {w w':World} {b o:Nat} {x:RcA}
theorem RecAt.same (h:RecAt w b o x) (hb:w'.heap[b]?=w.heap[b]?):RecAt w' b o x:=⟨h.1,fun j hj=>(World.cell?_of_block (a:=⟨b,o+j,none⟩) hb).trans (h.2 j hj)⟩
theorem RecAt.load (h:RecAt w b o x):(loadVar 36 ⟨b,o,none⟩).run Tryz.prog w=.ok x.v w:=by
 have hl:(loadCells ⟨b,o,none⟩ 19).run Tryz.prog w=.ok x.cells w:=by
  have h1:=run_loadCells_list (P:=Tryz.prog) w ⟨b,o,none⟩ x.cs (fun j u hu=>by
   rw[Addr.add_lit,h.2 j (by have:=(List.getElem?_eq_some_iff.1 hu).1;rw[cs_len h.1]at this;exact this)];exact hu)
  rw[cs_len h.1]at h1;exact h1
 have hs:=sizeRec;cases hq:Tryz.prog.info? 36 with
 | none=>simp[hq]at hs
 | some i=>
  have hs:i.size=19:=by simpa [hq] using hs
  have hagg:(isAgg 36).run Tryz.prog w=.ok true w:=by
   unfold isAgg;rw[Sem.run_bind,run_underlying Tryz.underlying36 w];simp
  simp[loadVar,Sem.run_bind,hagg,sizeOf,typeInfo,hq,hs,hl,RcA.v]
theorem RecAt.cellz (h:RecAt w b o x) {j:Nat} (hj:j<16):w.cell? ⟨b,o+j,none⟩=some (.int .u8 (x.R.z.getD j 0)):=by
 rw[h.2 j (by omega),RcA.cs,RcA.cells,rcells];rw[List.getElem?_append_left (by simp[h.1];omega)];simp[List.getD,List.getElem?_eq_getElem (show j<x.R.z.length by rw[h.1];exact hj)]
theorem RecAt.load_id (h:RecAt w b o x):(loadVar 31 ⟨b,o,none⟩).run Tryz.prog w=.ok (.agg (bvals x.R.z)) w:=by
 have hl:(loadCells ⟨b,o,none⟩ 16).run Tryz.prog w=.ok (bvals x.R.z) w:=by
  have h1:=run_loadCells_list (P:=Tryz.prog) w ⟨b,o,none⟩ (x.R.z.map (Value.int .u8)) (fun j u hu=>by
   have hj:j<16:=by have:=(List.getElem?_eq_some_iff.1 hu).1;rw[List.length_map,h.1]at this;exact this
   rw[Addr.add_lit,h.cellz hj];rw[List.getElem?_map,List.getElem?_eq_getElem (show j<x.R.z.length by rw[h.1];exact hj)]at hu
   simpa [List.getD,List.getElem?_eq_getElem (show j<x.R.z.length by rw[h.1];exact hj)] using hu)
  rw[List.length_map,h.1]at h1;exact h1
 exact Tta15
theorem RecAt.c16 (h:RecAt w b o x):w.cell? ⟨b,o+16,none⟩=some (.int .i64 x.R.n):=by rw[h.2 16 (by omega),RcA.cs,Array.getElem?_toList];exact (rcells_get h.1 _ _ _).1
theorem RecAt.c18 (h:RecAt w b o x):w.cell? ⟨b,o+18,none⟩=some (.slice x.A x.R.fs.length x.c):=by rw[h.2 18 (by omega),RcA.cs,Array.getElem?_toList];exact (rcells_get h.1 _ _ _).2.2
end
def RsAt (w:World) (A:Option Addr) (c:Nat) (xs:List RcA):Prop:=
 xs.length≤c∧c≤maxLen∧(A=none→c=0) ∧
 (0<xs.length→∃ b off,A=some ⟨b,off,none⟩∧b<w.heap.size∧∀ i,i<xs.length→RecAt w b (off+i*19) (xs.getD i rcA0))∧∀ x∈xs,RvAt w x
theorem RsAt.below {w w':World} {B:Nat} {A:Option Addr} {c:Nat} {xs:List RcA} (h:RsAt w A c xs) (hb:Below B w w') (hB:w.heap.size≤B):RsAt w' A c xs:=by
 obtain⟨h1,h2,h3,h4,h5⟩:=h;refine⟨h1,h2,h3,fun h0=>?_,fun x hx=>(h5 x hx).below hb hB⟩;obtain⟨b,off,rfl,hlt,hc⟩:=h4 h0;exact⟨b,off,rfl,Nat.lt_of_lt_of_le hlt hb.size,fun i hi=>(hc i hi).same (hb.block b (Nat.lt_of_lt_of_le hlt hB))⟩
theorem RsAt.nil (w:World) (A:Option Addr) (c:Nat) (hc:c≤maxLen) (h:A=none→c=0):RsAt w A c []:=⟨Nat.zero_le _,hc,h,fun h=>absurd h (by simp),fun x hx=>by cases hx⟩
theorem RsAt.rv {w:World} {A:Option Addr} {c:Nat} {xs:List RcA} (h:RsAt w A c xs) {i:Nat} (hi:i<xs.length):RvAt w (xs.getD i rcA0):=by
 rw[List.getD_eq_getElem?_getD,List.getElem?_eq_getElem hi];exact h.2.2.2.2 _ (List.getElem_mem hi)
theorem recs_one (xs:List RcA):∀ u∈xs.flatMap RcA.cs,u.oneCell'=true:=by
 intro u hu;obtain⟨f,_,hf⟩:=List.mem_flatMap.1 hu;exact cs_one f u hf
theorem recs_len {xs:List RcA} (h:∀ x∈xs,x.R.z.length=16):(xs.flatMap RcA.cs).length=xs.length*19:=by
 induction xs with
 | nil=>rfl
 | cons f fs ih=>rw[List.flatMap_cons,List.length_append,ih (fun x hx=>h x (List.mem_cons_of_mem _ hx)),List.length_cons,cs_len (h f List.mem_cons_self)];omega
theorem recs_at {xs:List RcA} (h:∀ x∈xs,x.R.z.length=16) {i j:Nat} (hi:i<xs.length) (hj:j<19):(xs.flatMap RcA.cs)[i*19+j]?=(xs.getD i rcA0).cs[j]?:=by
 induction xs generalizing i with
 | nil=>simp at hi
 | cons x xs ih=>
  have hx:=cs_len (h x List.mem_cons_self);cases i with
  | zero=>
   simp only[List.flatMap_cons,Nat.zero_mul,Nat.zero_add,List.getD_cons_zero];rw[List.getElem?_append_left (by rw[hx];omega)]
  | succ i=>
   simp only[List.flatMap_cons,List.getD_cons_succ];rw[List.getElem?_append_right (by rw[hx];omega)];have e:(i+1)*19+j - x.cs.length=i*19+j:=by rw[hx];omega
   rw[e];exact ih (fun y hy=>h y (List.mem_cons_of_mem _ hy)) (by simpa using hi)
theorem RsAt.own {w:World} {base c:Nat} {A:Option Addr} {xs:List RcA} (h:w.ownsRow base 36 19 (.slice A xs.length c) xs.length (xs.flatMap RcA.cs)) (hx:∀ x∈xs,RvAt w x):RsAt w A c xs:=by
 have hz:∀ x∈xs,x.R.z.length=16:=fun x hxx=>(hx x hxx).len;rcases h.2 with ⟨h1,h2⟩ | ⟨g,cap,cur,h1,hb,hg,hn,hm,hs,ht⟩
 ·simp only[Value.slice.injEq]at h1;obtain⟨rfl,h3,rfl⟩:=h1;exact⟨by omega,by decide,fun _=>rfl,fun h0=>by omega,hx⟩
 ·simp only[Value.slice.injEq]at h1;obtain⟨rfl,_,rfl⟩:=h1;refine⟨hn,hm,fun h=>(by cases h),fun h0=>⟨g,0,rfl,(Array.getElem?_eq_some_iff.1 hg).1,fun i hi=>⟨?_,fun j hj=>?_⟩⟩,hx⟩
  ·rw[List.getD_eq_getElem?_getD,List.getElem?_eq_getElem hi];exact hz _ (List.getElem_mem hi)
  ·rw[cell_of_row w g _ cur _ (0,0) hg,← recs_at hz hi hj,← ht,List.getElem?_take,if_pos (by omega)];simp
theorem sizeRecW (w:World):(sizeOf 36).run Tryz.prog w=.ok 19 w:=by
 simp[sizeOf,go_sem]
 rfl
theorem elemRec:Tryz.prog.elem 22=36:=by kernel_rfl
theorem ix_rec (b off len cap i:Nat) (h:i<len) (I:Int) (e:I=i) (w:World):(Instr.indexAt 22 (.slice (some ⟨b,off,none⟩) len cap) (.int .i64 I)).run Tryz.prog w=.ok (.pointer (some ⟨b,off+i*19,none⟩)) w:=by
 subst e;rw[run_indexAt_slice w 22 _ len cap .i64 i (by rw[elemRec];exact Tryz.underlying22),if_pos (by omega),elemRec,sizeRecW];simp[Result.andThen,Addr.add_lit]
structure Bk where
 xs:List RcA
 A:Option Addr
 c:Nat
def bk0:Bk:=⟨[],none,0⟩
def Bk.s (b:Bk):Value:=.slice b.A b.xs.length b.c
def Bk.v (b:Bk):Value:=.agg #[b.s]
def Bk.rs (b:Bk):List Rc:=b.xs.map (·.R)
def BkAt (w:World) (b:Bk):Prop:=RsAt w b.A b.c b.xs
theorem BkAt.below {w w':World} {B:Nat} {b:Bk} (h:BkAt w b) (hb:Below B w w') (hB:w.heap.size≤B):BkAt w' b:=RsAt.below h hb hB
theorem BkAt.zero (w:World):BkAt w bk0:=RsAt.nil _ _ _ (by decide) (fun _=>rfl)
def BoAt (w:World) (p:Nat) (v:Value):Prop:=w.heap[p]?=some (.cells #[v] 24)
section
variable {w w':World} {p B:Nat} {v:Value}
theorem BoAt.c0 (h:BoAt w p v):w.cell? ⟨p,0,none⟩=some v:=by rw[cell_of_row _ _ _ _ _ _ h];rfl
theorem BoAt.lt (h:BoAt w p v):p<w.heap.size:=by
 rcases Nat.lt_or_ge p w.heap.size with h1 | h1
 ·exact h1
 ·unfold BoAt at h;rw[Array.getElem?_eq_none h1]at h;cases h
theorem BoAt.below (h:BoAt w p v) (hb:Below B w w') (hB:p<B):BoAt w' p v:=by unfold BoAt;rw[hb.block p hB];exact h
theorem BoAt.same (h:BoAt w p v) (hb:w'.heap[p]?=w.heap[p]?):BoAt w' p v:=hb.trans h
theorem BoAt.new (w:World) (v:Value):BoAt (w.alloc (.cells #[v] 24)) w.heap.size v:=heap_alloc_new w _
theorem BoAt.old (h:BoAt w p v) (o:Obj):BoAt (w.alloc o) p v:=h.below ((Below.refl w.heap.size w).alloc Nl o) h.lt
theorem BoAt.load (h:BoAt w p v):(loadVar 24 ⟨p,0,none⟩).run Tryz.prog w=.ok (.agg #[v]) w:=
 run_loadVar_row w p 24 24 _ (0,0) _ h Tryz.underlying24 rfl (show (Tryz.prog.info? 24).map (·.size)=some 1 by kernel_rfl)
theorem BoAt.put (h:BoAt w p v) (u:Value):BoAt (w.setRow p #[u]) p u:=setRow_heap w p _ _ _ _ h
end
theorem zeroBook (w:World):(zeroValue 24).run Tryz.prog w=.ok bk0.v w:=(zero_of_info (show (Tryz.prog.info? 24).map (fun i=>(i.zero,i.size))=some (some bk0.v,1) by kernel_rfl)).1 w
theorem sizeBook:(Tryz.prog.info? 24).map (·.size)=some 1:=by kernel_rfl
theorem res_bk2 {fn:Func} {p q:Tmp} (h:fn.results=#[.cell p 24,.tmp q]) {tmps:Array Value} {w:World} {g:Nat} {v:Value} (hp:tmps.getD p undef=.pointer (some ⟨g,0,none⟩)) (hs:BoAt w g v):
  (results fn tmps).run Tryz.prog w=.ok (.tuple #[.agg #[v],tmps.getD q undef]) w:=by
 have hp':tmps[p]?.getD undef=.pointer (some ⟨g,0,none⟩):=by simpa using hp
 simp[results,h,hp',asAddr,hs.load]
end
end
end Go.Proofs.YtnlhkpmgbpfjmaaGreatDoor
