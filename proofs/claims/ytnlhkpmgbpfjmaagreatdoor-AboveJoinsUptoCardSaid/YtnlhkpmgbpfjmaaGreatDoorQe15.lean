import Derived.Test.YtnlhkpmgbpfjmaaGreatDoorQe14
import Derived.Lib.LazyBuf
import Derived.Maps.Range
/- What functions answer, part 15. -/
namespace Go.Proofs.YtnlhkpmgbpfjmaaGreatDoor
set_option linter.unusedVariables false
set_option linter.unusedSimpArgs false
set_option maxHeartbeats 16000000
set_option maxRecDepth 100000
section
open Go.RowKit WM
def FTag (w:World) (A:Option Addr):Prop:=∀ p,A=some p→∃ cur,w.heap[p.block]?=some (.cells cur 59)
theorem Tta28 {p:Prop} (h:p:=by
  intro p e;rcases h.2 with ⟨h1,_⟩ | ⟨g,cap,cur,h1,_,hg,_⟩
  ·simp only[Value.slice.injEq]at h1;rw[h1.1]at e;cases e
  ·simp only[Value.slice.injEq]at h1;rw[h1.1]at e;cases e;exact⟨cur,hg⟩
 ):p:=h
theorem FTag.own {w:World} {base n c size:Nat} {A:Option Addr} {xs:List Value} (h:w.ownsRow base 59 size (.slice A n c) n xs):FTag w A:=by
 exact Tta28
theorem tag_ne {w:World} {g:Nat} {cur:Array Value} {t:TypeId} (h:w.heap[g]?=some (.cells cur t)) (ht:t≠59):∀ c,w.heap[g]?≠some (.cells c 59):=by
 intro c e;rw[h]at e;simp only[Option.some.injEq,Obj.cells.injEq]at e;exact ht e.2.1
theorem FTag.kept {w w':World} {A:Option Addr} {row:Option Nat} (h:FTag w A) (hg:w.grownBy w' row) (hr:∀ g,row=some g→∀ c,w.heap[g]?≠some (.cells c 59)):FTag w' A:=fun p e=>by
 obtain⟨cur,hc⟩:=h p e;refine⟨cur,(hg.block _ (Array.getElem?_eq_some_iff.1 hc).1 (fun e2=>hr _ e2.symm cur hc)).trans hc⟩
theorem FsAt.kept_tag {w w':World} {A:Option Addr} {c:Nat} {fs:List Fld} {row:Option Nat} (h:FsAt w A c fs) (t:FTag w A) (hg:w.grownBy w' row) (hr:∀ g,row=some g→∀ c,w.heap[g]?≠some (.cells c 59)):FsAt w' A c fs:=by
 cases row with
 | none=>exact h.below (B:=w.heap.size) ⟨hg.os,hg.tape,hg.output,hg.size,fun k hk=>hg.block k hk (fun e=>by cases e)⟩ Nl
 | some b=>
  refine h.kept' hg fun off h0 e=>?_;obtain⟨cur,hc⟩:=t _ e;exact hr b rfl cur hc
theorem RvAt.kept_tag {w w':World} {x:RcA} {row:Option Nat} (h:RvAt w x) (t:FTag w x.A) (hg:w.grownBy w' row) (hr:∀ g,row=some g→∀ c,w.heap[g]?≠some (.cells c 59)):RvAt w' x:=⟨h.1,h.2.kept_tag t hg hr⟩
end
section
open Go.RowKit WM
def Tag (t:TypeId) (w:World) (A:Option Addr):Prop:=∀ p,A=some p→∃ cur,w.heap[p.block]?=some (.cells cur t)
def NoT (ts:List TypeId) (w:World) (row:Option Nat):Prop:=∀ g,row=some g→∀ t∈ts,∀ c,w.heap[g]?≠some (.cells c t)
theorem NoT.of {ts:List TypeId} {w:World} {g:Nat} {cur:Array Value} {t:TypeId} (h:w.heap[g]?=some (.cells cur t)) (ht:t ∉ ts):NoT ts w (some g):=fun g' e t' ht' c hc=>by
 obtain rfl:=Option.some.inj e;rw[h]at hc;simp only[Option.some.injEq,Obj.cells.injEq]at hc;exact ht (hc.2.1▸ht')
theorem NoT.own {ts:List TypeId} {w:World} {base size n:Nat} {t:TypeId} {v:Value} {xs:List Value} (h:w.ownsRow base t size v n xs) (ht:t ∉ ts):NoT ts w v.ownBlock:=by
 rcases h.2 with ⟨rfl,_⟩ | ⟨g,cap,cur,rfl,_,hg,_⟩
 ·exact fun g e=>by simp[Value.ownBlock]at e
 ·exact NoT.of hg ht
theorem NoT.sub {ts us:List TypeId} {w:World} {row:Option Nat} (h:NoT ts w row) (hu:∀ t∈us,t∈ts):NoT us w row:=fun g e t ht=>h g e t (hu t ht)
theorem Tag.below {t:TypeId} {w w':World} {A:Option Addr} (h:Tag t w A) (hb:Below w.heap.size w w'):Tag t w' A:=fun p e=>by
 obtain⟨cur,hc⟩:=h p e;exact⟨cur,(hb.block _ (Array.getElem?_eq_some_iff.1 hc).1).trans hc⟩
theorem Tag.kept {t:TypeId} {w w':World} {A:Option Addr} {row:Option Nat} (h:Tag t w A) (hg:w.grownBy w' row) (hr:NoT [t] w row):Tag t w' A:=fun p e=>by
 obtain⟨cur,hc⟩:=h p e;exact⟨cur,(hg.block _ (Array.getElem?_eq_some_iff.1 hc).1 (fun e2=>hr _ e2.symm t (List.mem_singleton.2 rfl) cur hc)).trans hc⟩
theorem Tag.own {w:World} {base n c size:Nat} {t:TypeId} {A:Option Addr} {xs:List Value} (h:w.ownsRow base t size (.slice A n c) n xs):Tag t w A:=by
 exact Tta28
theorem Kind.row_kept {α:Type} {K:Kind α} {t:TypeId} {w w':World} {A:Option Addr} {c:Nat} {xs:List α} {row:Option Nat} (h:K.row w A c xs) (ht:Tag t w A) (hg:w.grownBy w' row) (hr:NoT [t] w row) (hk:∀ x∈xs,K.ok w' x):K.row w' A c xs:=by
 obtain⟨h1,h2,h3,h4,h5⟩:=h;refine⟨h1,h2,h3,fun h0=>?_,hk⟩;obtain⟨b,off,hA,hb,hc⟩:=h4 h0;obtain⟨cur,hcur⟩:=ht _ hA;have hs:=hg.block b hb (fun e2=>hr _ e2.symm t (List.mem_singleton.2 rfl) cur hcur);exact⟨b,off,hA,Nat.lt_of_lt_of_le hb hg.size,fun i hi=>Kind.at_same (hc i hi) hs⟩
structure TKind (α:Type) where
 K:Kind α
 tag:World→α→Prop
 ts:List TypeId
 below:∀ {w w':World} {x:α},tag w x→Below w.heap.size w w'→tag w' x
 kept:∀ {w w':World} {x:α} {row:Option Nat},K.ok w x→tag w x→w.grownBy w' row→NoT ts w row→K.ok w' x∧tag w' x
theorem KSig_kept {w w':World} {A:Option Addr} {c:Nat} {xs:List Sg} {row:Option Nat} (h:KSig.row w A c xs) (ht:Tag 122 w A) (hg:w.grownBy w' row) (hr:NoT [122] w row):KSig.row w' A c xs:=Kind.row_kept h ht hg hr h.2.2.2.2
theorem EnA.kept {w w':World} {x:EnA} {row:Option Nat} (h:x.Ok w) (ht:Tag 122 w x.A) (hg:w.grownBy w' row) (hr:NoT [122] w row):x.Ok w'∧Tag 122 w' x.A:=
 ⟨⟨h.1,h.2.1,h.2.2.1,h.2.2.2.1,h.2.2.2.2.1,h.2.2.2.2.2.1,KSig_kept h.2.2.2.2.2.2 ht hg hr⟩,ht.kept hg hr⟩
def TEn:TKind EnA:={ K:=KEn,tag:=fun w x=>Tag 122 w x.A,ts:=[122],below:=fun h hb=>Tag.below h hb,kept:=fun h ht hg hr=>EnA.kept h ht hg hr}
def LnA.T (w:World) (x:LnA):Prop:=Tag 68 w x.A∧∀ e∈x.es,Tag 122 w e.A
theorem LnA.kept {w w':World} {x:LnA} {row:Option Nat} (h:x.Ok w) (ht:x.T w) (hg:w.grownBy w' row) (hr:NoT [122,68] w row):x.Ok w'∧x.T w':=by
 have h1:NoT [122] w row:=hr.sub fun t ht=>by rw[List.mem_singleton.1 ht];exact List.mem_cons_self
 have h2:NoT [68] w row:=hr.sub fun t ht=>by rw[List.mem_singleton.1 ht];exact List.mem_cons_of_mem _ List.mem_cons_self
 have key:∀ e∈x.es,e.Ok w'∧Tag 122 w' e.A:=fun e he=>EnA.kept (h.2.2.2.2.2.2.2.2 e he) (ht.2 e he) hg h1;exact⟨⟨h.1,h.2.1,h.2.2.1,h.2.2.2.1,Kind.row_kept h.2.2.2.2 ht.1 hg h2 fun e he=>(key e he).1⟩,ht.1.kept hg h2,fun e he=>(key e he).2⟩
theorem LnA.T_below {w w':World} {x:LnA} (h:x.T w) (hb:Below w.heap.size w w'):x.T w':=⟨h.1.below hb,fun e he=>(h.2 e he).below hb⟩
def TLn:TKind LnA:={ K:=KLn,tag:=fun w x=>x.T w,ts:=[122,68],below:=fun h hb=>LnA.T_below h hb,kept:=fun h ht hg hr=>LnA.kept h ht hg hr}
structure RJ {α:Type} (T:TKind α) (te tc:TypeId) (bl base:Nat) (pre:List Value) (v:Value) (xs:List α) (W:World):Prop where
 blk:W.heap[bl]?=some (.cells (pre++[v]).toArray tc)
 own:W.ownsRow base te T.K.n v xs.length (xs.flatMap T.K.cs)
 ok:∀ x∈xs,T.K.ok W x∧T.tag W x
 lt:bl<base
 le:base≤W.heap.size
section
variable {α:Type} {T:TKind α} {te tc:TypeId} {bl base:Nat} {pre:List Value} {v v':Value} {xs:List α} {y:α} {W W':World}
theorem RJ.below (h:RJ T te tc bl base pre v xs W) (hb:Below W.heap.size W W'):RJ T te tc bl base pre v xs W':=
 ⟨(hb.block _ (Array.getElem?_eq_some_iff.1 h.blk).1).trans h.blk,own_below h.own hb,fun x hx=>⟨T.K.below (h.ok x hx).1 hb,T.below (h.ok x hx).2 hb⟩,h.lt,Nat.le_trans h.le hb.size⟩
theorem RJ.alloc (h:RJ T te tc bl base pre v xs W) (o:Obj):RJ T te tc bl base pre v xs (W.alloc o):=h.below ((Below.refl _ _).alloc Nl o)
theorem RJ.drew (h:RJ T te tc bl base pre v xs W):RJ T te tc bl base pre v xs W.drew:=h.below ((Below.refl _ _).drew)
theorem RJ.cell (h:RJ T te tc bl base pre v xs W) {p:Nat} (hp:p=pre.length):W.cell? ⟨bl,p,none⟩=some v:=by
 subst hp;rw[cell_of_row _ _ _ _ _ _ h.blk,List.getElem?_toArray,List.getElem?_append_right Nl,Nat.sub_self]
 rfl
structure RM {α:Type} (T:TKind α) (te tc:TypeId) (bl base:Nat) (pre:List Value) (v v':Value) (xs:List α) (W:World):Prop where
 blk:W.heap[bl]?=some (.cells (pre++[v]).toArray tc)
 own:W.ownsRow base te T.K.n v' xs.length (xs.flatMap T.K.cs)
 ok:∀ x∈xs,T.K.ok W x∧T.tag W x
 lt:bl<base
 le:base≤W.heap.size
theorem RJ.grown (h:RJ T te tc bl base pre v xs W) (hy:T.K.ok W y∧T.tag W y) (hO:W'.ownsRow base te T.K.n v' (xs.length+1) ((xs++[y]).flatMap T.K.cs)) (hG:W.grownBy W' v.ownBlock) (he:te ∉ T.ts):RM T te tc bl base pre v v' (xs++[y]) W':=by
 refine⟨(hG.block _ (Array.getElem?_eq_some_iff.1 h.blk).1 (fun e=>?_)).trans h.blk,by rw[List.length_append];exact hO,fun x hx=>?_,h.lt,Nat.le_trans h.le hG.size⟩
 ·have:=own_base h.own e.symm;have:=h.lt;omega
 ·rcases List.mem_append.1 hx with hx | hx
  ·exact T.kept (h.ok x hx).1 (h.ok x hx).2 hG (NoT.own h.own he)
  ·rw[List.mem_singleton.1 hx];exact T.kept hy.1 hy.2 hG (NoT.own h.own he)
theorem RM.cell (h:RM T te tc bl base pre v v' xs W) {p:Nat} (hp:p=pre.length):W.cell? ⟨bl,p,none⟩=some v:=by
 subst hp;rw[cell_of_row _ _ _ _ _ _ h.blk,List.getElem?_toArray,List.getElem?_append_right Nl,Nat.sub_self]
 rfl
theorem RM.fz (h:RM T te tc bl base pre v v' xs W) (j:Nat):W.frozen? ⟨bl,j,none⟩=false:=frozen_of_row _ _ _ _ _ h.blk
theorem grownBy_setCell9 (W:World) (b j:Nat) (u:Value):W.grownBy (W.setCell ⟨b,j,none⟩ u) (some b):=
 ⟨by simp[World.setCell],by simp[World.setCell],by simp[World.setCell],by simp,fun k _ hk=>Below.heap_setCell _ _ _ _ (fun e=>hk (by rw[e]))⟩
theorem RM.store (h:RM T te tc bl base pre v v' xs W) (hc:tc ∉ T.ts) {p:Nat} (hp:p=pre.length):RJ T te tc bl base pre v' xs (W.setCell ⟨bl,p,none⟩ v'):=by
 subst hp;have hg:=grownBy_setCell9 W bl pre.length v';refine⟨?_,h.own.kept hg ?_,fun x hx=>T.kept (h.ok x hx).1 (h.ok x hx).2 hg (NoT.of h.blk hc),h.lt,Nat.le_trans h.le hg.size⟩
 ·rw[heap_setCell_same _ _ _ _ _ _ h.blk]
  congr 2
  simp
 ·cases ho:v'.ownBlock with
  | none=>exact .inl rfl
  | some g=>
   refine .inr fun e=>?_;have:=own_base h.own ho;have:=h.lt;have:=Option.some.inj e;omega
theorem RJ.other {q:Nat} {c:Array Value} {t:TypeId} (h:RJ T te tc bl base pre v xs W) (hq:W.heap[q]?=some (.cells c t)) (ht:t≠te) (hG:W.grownBy W' v.ownBlock):W'.heap[q]?=some (.cells c t):=by
 refine (hG.block _ (Array.getElem?_eq_some_iff.1 hq).1 (fun e=>?_)).trans hq;rcases h.own.2 with ⟨rfl,_⟩ | ⟨g,cap,cur,rfl,_,hg,_⟩
 ·simp[Value.ownBlock]at e
 ·obtain rfl:q=g:=by simpa [Value.ownBlock] using e
  rw[hq]at hg;simp only[Option.some.injEq,Obj.cells.injEq]at hg;exact ht hg.2.1
theorem RM.other {q:Nat} {c:Array Value} {t:TypeId} (h:RM T te tc bl base pre v v' xs W) {p:Nat} (hq:W.heap[q]?=some (.cells c t)) (hne:q≠bl):(W.setCell ⟨bl,p,none⟩ v').heap[q]?=some (.cells c t):=(Below.heap_setCell _ _ _ _ hne).trans hq
end
def enC (no n r len:Int) (ds:List Int) (A:Option Addr) (m c:Nat):List Value:=.int .i64 no::.int .i64 n::.int .i64 r::.int .i64 len::(ds.map (Value.int .u8)++[.slice A m c])
def lnP (z:List Int) (n r:Int):List Value:=z.map (Value.int .u8)++[.int .i64 n,.int .i64 r]
def mnP (z:List Int):List Value:=z.map (Value.int .u8)
theorem lnP_len {z:List Int} (h:z.length=16) (n r:Int):18=(lnP z n r).length:=by simp[lnP,h]
theorem mnP_len {z:List Int} (h:z.length=32):32=(mnP z).length:=by simp[mnP,h]
theorem ln_cs (x:LnA):KLn.cs x=lnP x.z x.n x.r++[.slice x.A x.es.length x.c]:=by
 show x.z.map (Value.int .u8)++[.int .i64 x.n,.int .i64 x.r,.slice x.A x.es.length x.c]=_;unfold lnP;rw[List.append_assoc]
 rfl
theorem built_en {ds:List Int} (h:ds.length=32) (no n r len:Int) (A:Option Addr) (m c:Nat):Tryz.prog.built 68 [(0,.int .i64 no),(1,.agg #[.int .i64 n,.int .i64 r]),(2,.int .i64 len),(3,.agg (bvals ds)),(4,.slice A m c)]=some (enC no n r len ds A m c).toArray:=by
 exact Tta35
theorem build_en {x:EnA} (h:x.e.ds.length=32) (w:World):(Instr.build 68 #[(0,.int .i64 x.e.no),(1,.agg #[.int .i64 x.e.n,.int .i64 x.e.r]),(2,.int .i64 x.e.len),(3,.agg (bvals x.e.ds)),(4,.slice x.A x.e.bs.length x.c)]).run Tryz.prog w=.ok (.agg (KEn.cs x).toArray) w:=run_build w _ _ _ (built_en h _ _ _ _ _ _ _)
theorem built_ln {z:List Int} (h:z.length=16) (n r:Int):Tryz.prog.built 63 [(0,.agg (bvals z)),(1,.agg #[.int .i64 n,.int .i64 r])]=some (lnP z n r++[Value.slice none 0 0]).toArray:=by
 exact Tta55
theorem build_ln {z:List Int} (h:z.length=16) (n r:Int) (w:World):(Instr.build 63 #[(0,.agg (bvals z)),(1,.agg #[.int .i64 n,.int .i64 r])]).run Tryz.prog w=.ok (.agg (lnP z n r++[Value.slice none 0 0]).toArray) w:=run_build w _ _ _ (built_ln h n r)
theorem built_mn {z:List Int} (h:z.length=32):Tryz.prog.built 29 [(0,.agg (bvals z))]=some (mnP z++[Value.slice none 0 0]).toArray:=by
 exact Tta35
theorem build_mn {z:List Int} (h:z.length=32) (w:World):(Instr.build 29 #[(0,.agg (bvals z))]).run Tryz.prog w=.ok (.agg (mnP z++[Value.slice none 0 0]).toArray) w:=run_build w _ _ _ (built_mn h)
theorem size_pre {t:TypeId} {pre:List Value} {n:Nat} {v:Value} (h:(Tryz.prog.info? t).map (·.size)=some (n+1)) (hp:n=pre.length):(Tryz.prog.info? t).map (·.size)=some (pre++[v]).toArray.size:=by
 rw[h,List.size_toArray,List.length_append,hp]
 rfl
theorem lnP_one (z:List Int) (n r:Int) {v:Value} (hv:v.oneCell'=true):(lnP z n r++[v]).toArray.all (·.oneCell')=true:=by
 rw[Array.all_eq_true_iff_forall_mem];intro u hu;simp only[lnP,List.mem_toArray,List.mem_append,List.mem_cons,List.not_mem_nil,or_false]at hu;rcases hu with (hu | rfl | rfl) | rfl
 ·exact byte_ones _ u hu
 ·rfl
 ·rfl
 ·exact hv
theorem mnP_one (z:List Int) {v:Value} (hv:v.oneCell'=true):(mnP z++[v]).toArray.all (·.oneCell')=true:=by
 rw[Array.all_eq_true_iff_forall_mem];intro u hu;simp only[mnP,List.mem_toArray,List.mem_append,List.mem_cons,List.not_mem_nil,or_false]at hu;rcases hu with hu | rfl
 ·exact byte_ones _ u hu
 ·exact hv
structure Fr (bl:Nat) (W0:World) (bf:Nat) (C:Array Value) (t:TypeId) (X:World):Prop where
 b:Below bl W0 X
 o:X.heap[bf]?=some (.cells C t)
theorem Fr.below {bl bf:Nat} {W0 X Y:World} {C:Array Value} {t:TypeId} (h:Fr bl W0 bf C t X) (hbl:bl≤W0.heap.size) (hb:Below X.heap.size X Y):Fr bl W0 bf C t Y:=
 ⟨h.b.trans (hb.mono (Nat.le_trans hbl h.b.size)),(hb.block _ (Array.getElem?_eq_some_iff.1 h.o).1).trans h.o⟩
section
variable {α:Type} {T:TKind α} {te tc t:TypeId} {bl base bf p:Nat} {pre:List Value} {v v':Value} {xs:List α} {W0 X Y:World} {C:Array Value}
theorem RJ.fr (J:RJ T te tc bl base pre v xs X) (h:Fr bl W0 bf C t X) (ht:t≠te) (hG:X.grownBy Y v.ownBlock):Fr bl W0 bf C t Y:=
 ⟨h.b.grown hG (Nat.le_of_lt (Nat.lt_of_lt_of_le J.lt J.le)) (fun g hg=>by have:=own_base J.own hg;have:=J.lt;omega),J.other h.o ht hG⟩
theorem RM.fr (M:RM T te tc bl base pre v v' xs X) (h:Fr bl W0 bf C t X) (hne:bf≠bl):Fr bl W0 bf C t (X.setCell ⟨bl,p,none⟩ v'):=⟨h.b.setCell Nl _,M.other h.o hne⟩
end
end
section
open Go.RowKit WM
def ClonePost (w:World) (fs:List Fld) (e:Ending) (w':World):Prop:=∃ A c,e=.returned (.slice A fs.length c)∧FsAt w' A c fs∧Below w.heap.size w w'
theorem clone_end {w w':World} {v:Value} {n:Nat} {fs:List Fld} (hl:fs.length=n) (ho:w'.ownsRow w.heap.size 59 4 v n (fs.flatMap Fld.cs)) (hb:Below w.heap.size w w'):ClonePost w fs (.returned v) w':=by
 subst hl;have ho':=ho;rcases ho.2 with ⟨rfl,h0⟩ | ⟨g,cap,cur,rfl,_⟩
 ·rw[h0]at ho';exact⟨none,0,by rw[h0],FsAt.own (base:=w.heap.size) (by rw[h0];exact ho'),hb⟩
 ·exact⟨_,cap,rfl,FsAt.own ho',hb⟩
theorem fclone_any (A:Option Addr) (len c:Nat) (fs:List Fld) (w:World) (hl:fs.length=len) (h:FsAt w A c fs) (hs:len≤1000):
  Calls Tryz.prog 89 #[.slice A len c] w (ClonePost w fs):=by
 cases A with
 | none=>
  obtain⟨h1,h2,h3,_⟩:=h;have hc:=h3 rfl;subst hc;have hn:fs=[]:=List.eq_nil_of_length_eq_zero (by omega);subst hn;simp at hl;subst hl;have HP:Hid (ClonePost w [] (.returned (.slice none 0 0)) w):=Yy ⟨none,0,rfl,FsAt.nil _ _ _ (by decide) (fun _=>rfl),Below.refl _ _⟩;have heq:(binOp .eql 34 (.slice none 0 0) (.slice none 0 0)).run Tryz.prog w=.ok (.bool true) w:=run_eql_slice_nil w _ 59 none 0 0 Tryz.underlying34;go_enter Tryz.func89,Tryz.ntmps89;go_wp2;go_ret;exact HP.out
 | some ad=>
  obtain⟨i0,hi,hz0,hz1,hz2⟩:=info_parts infoFld;have ho:=World.ownsRow_made (base:=w.heap.size) (size:=4) (e:=59) w #[] 0 Nl (by decide) rfl;have HA:=Yy (h.below ((Below.refl w.heap.size w).alloc Nl (.cells #[] 59)) Nl);have HL:=Yy hl;have HB:=Yy ((Below.refl w.heap.size w).alloc Nl (.cells #[] 59));have heq:(binOp .eql 34 (.slice (some ad) len c) (.slice none 0 0)).run Tryz.prog w=.ok (.bool false) w:=run_eql_slice_nil w _ 59 (some ad) len c Tryz.underlying34;clear h hl;go_enter Tryz.func89,Tryz.ntmps89;go_wp2_with (at_builtin;refine wpList_append_fld _ rfl _ _ 34 rfl w.heap.size 59 i0 Tryz.underlying34 hi hz0 hz1 hz2 _ 0 [] rfl ho (some ad) len c fs rfl HA.out HL.out (by omega) (by simp) ?_;intro v2 w2 ho2 hg2);go_ret;exact clone_end (by rw[HL.out];omega) ho2 (HB.out.grown hg2 (by simp) (fun g hg=>own_base ho hg))
theorem XAt.put {w:World} {b:Nat} {x:RcA} (h:XAt w b x) (A:Option Addr) (c:Nat):XAt (w.setCell ⟨b,18,none⟩ (.slice A x.R.fs.length c)) b ⟨x.R,A,c⟩:=h.rc.put _
def OwnPost (w:World) (R:Rc) (e:Ending) (w':World):Prop:=∃ y:RcA,e=.returned (.agg y.cells)∧y.R=R∧RvAt w' y∧Below w.heap.size w w'
theorem res_x {fn:Func} {p:Tmp} (h:fn.results=#[.cell p 36]) {tmps:Array Value} {w:World} {b:Nat} {x:RcA} (hp:tmps.getD p undef=.pointer (some ⟨b,0,none⟩)) (hs:XAt w b x):
  (results fn tmps).run Tryz.prog w=.ok (.agg x.cells) w:=res_rc h hp hs.rc
theorem own_any (x:RcA) (w:World) (h:RvAt w x) (hs:x.R.fs.length≤1000):Calls Tryz.prog 57 #[.agg x.cells] w (OwnPost w x.R):=by
 have ZX:=Yy h.len;have S0:=Yy ((XAt.new w h.len).old (.cells rcA0.cells 36));have s1:=XAt.new (x:=rcA0) (w.alloc (.cells x.cells 36)) z16_len;rw[World.size_alloc]at s1;have S1:=Yy s1;have HB:=Yy (((Below.refl w.heap.size w).alloc Nl (.cells x.cells 36)).alloc (by simp) (.cells rcA0.cells 36));have s0:=S0.out.c18;have HC:=Yy (fclone_any x.A _ x.c x.R.fs _ rfl (h.2.below HB.out Nl) hs);unfold ClonePost at HC;have HOK:=Yy h.1;have hz:=zeroX;clear s1 h;go_enter Tryz.func57,Tryz.ntmps57;go_wp2_with fail;refine HC.out.mono ?_;rintro e w1 ⟨A',c',rfl,hF,hb⟩;have T0:=S0.out.below hb S0.out.lt;have T1:=Yy (S1.out.below hb S1.out.lt);have HB1:=Yy (HB.out.trans (hb.mono HB.out.size));have f18:=T0.fz 18;have d18:=T0.c18;have S0K:=Yy T0;have T2:=T0.put A' c';have TL:=Yy T2.load;have T3:=Yy (show XAt (w1.setCell ⟨w.heap.size,18,none⟩ (.slice A' x.R.fs.length c')) (w.heap.size+1) rcA0 from T1.out.same (Below.heap_setCell _ _ _ _ (show w.heap.size+1≠w.heap.size by omega)));have HB2:=Yy (HB1.out.setCell (p:=⟨w.heap.size,18,none⟩) Nl (.slice A' x.R.fs.length c'));have HF:=Yy (show RvAt w1 (⟨x.R,A',c'⟩:RcA) from⟨HOK.out,hF⟩);have HBB:=Yy hb;clear T0 T2 hb hF
 go_wp2_with (first | ((with_reducible refine YyL 36 (.tmp 1) ⟨w.heap.size,0,none⟩ TL.out ?_ ?_ ?_);rfl;rfl) | ((with_reducible refine wpList_store_oldx (o:=⟨none,.store 36 (.tmp 2) (.tmp 7),_,_,_,_⟩) ?_ (.tmp 2) (.tmp 7) ?_ (w.heap.size+1) _ T3.out ?_ (⟨x.R,A',c'⟩:RcA) ?_ ZX.out ?_);rfl;rfl;rfl;rfl;intro w2 hg2 hx2;have G2:=Yy hg2;have X2:=Yy hx2;clear hg2 hx2));refine bodyPost_ret (v:=.agg (⟨x.R,A',c'⟩:RcA).cells) ?_ rfl ?_
 ·exact res_x Tryz.results57 rfl X2.out
 ·exact⟨⟨x.R,A',c'⟩,rfl,rfl,(HF.out.kept_x (grownBy_setCell18 w1 w.heap.size 18 _) S0K.out).kept_x G2.out T3.out,HB2.out.grown G2.out HB2.out.size (fun k e=>by have:=Option.some.inj e;omega)⟩
theorem IdAt.below {w w':World} {b B:Nat} {z:List Int} (h:IdAt w b z) (hb:Below B w w') (hB:b<B):IdAt w' b z:=⟨h.1,(hb.block b hB).trans h.2⟩
theorem IdAt.lt {w:World} {b:Nat} {z:List Int} (h:IdAt w b z):b<w.heap.size:=(Array.getElem?_eq_some_iff.1 h.2).1
theorem IdAt.old {w:World} {b:Nat} {z:List Int} (h:IdAt w b z) (o:Obj):IdAt (w.alloc o) b z:=h.below ((Below.refl w.heap.size w).alloc Nl o) h.lt
theorem IdAt.new (w:World) {z:List Int} (h:z.length=16):IdAt (w.alloc (.cells (bvals z) 31)) w.heap.size z:=⟨h,heap_alloc_new w _⟩
end
section
section
open Go.RowKit WM
theorem keyID:Maps.Keyed Tryz.prog 31:=
 Maps.Keyed.of_law (deep_law (m:=2) (by decide) (by kernel_rfl) (by kernel_rfl) (by rw[Tryz.underlying31]))
theorem keyLaw:WideMaps.KeyLaw Tryz.prog 31:=deep_law (m:=2) (by decide) (by kernel_rfl) (by kernel_rfl) (by rw[Tryz.underlying31])
theorem mapM_gives {α β:Type} {f:α→Option β} {g:α→β}:∀ (l:List α),(∀ x∈l,f x=some (g x))→l.mapM f=some (l.map g)
 | [],_=>rfl
 | x::l,h=>by
  rw[List.mapM_cons,h x (by simp),mapM_gives l (fun y hy=>h y (by simp[hy]))]
  rfl
theorem key_id {z:List Int} (h:z.length=16) (hb:AllBytes z):∃ l,keyOf Tryz.prog 31 (.agg (bvals z))=some l:=by
 have c1:Tryz.prog.cellsOf 5=1:=by kernel_rfl
 have c16:Tryz.prog.cellsOf 31=16:=by kernel_rfl
 have kt:Tryz.prog.keyType 31=true:=by kernel_rfl
 have hl:(bvals z).size=16:=by simp[bvals,h]
 have kb:∀ d,∃ ls,Tryz.prog.keyLits (d+2) 31 (bvals z).toList=some ls:=fun d=>by
  unfold Program.keyLits;rw[Tryz.underlying31];dsimp only;rw[if_pos (by rw[Array.length_toList,hl,c16])];rw[mapM_gives (g:=fun i=>[Lit.int .u8 (z.getD i 0)]) _ (fun i hi=>?_)]
  ·exact⟨_,rfl⟩
  ·have hi:i<16:=by simpa using hi
   have e:((bvals z).toList.drop (i*Tryz.prog.cellsOf 5)).take (Tryz.prog.cellsOf 5)=[.int .u8 (z.getD i 0)]:=by
    rw[c1,Nat.mul_one];apply List.ext_getElem?;intro j;cases j with
    | zero=>simp[bvals,List.getD,List.getElem?_eq_getElem (show i<z.length by omega)]
    | succ j=>rw[List.getElem?_eq_none (by simp;omega),List.getElem?_eq_none (by simp)]
   rw[e];have hz:=hb (z.getD i 0) (by rw[List.getD_eq_getElem?_getD,List.getElem?_eq_getElem (show i<z.length by omega)];exact List.getElem_mem _);unfold Program.keyLits;rw[Tryz.underlying5];dsimp only;rw[if_pos];refine⟨rfl,?_⟩;generalize z.getD i 0=q at *;exact Tta54
 have hs:∃ d,Tryz.prog.types.size+1=d+2:=⟨Tryz.prog.types.size - 1,by have:1≤Tryz.prog.types.size:=of_decide_eq_true (by kernel_rfl);omega⟩;obtain⟨d,hd⟩:=hs;obtain⟨ls,hls⟩:=kb d;refine⟨.string (keyBytes ls),?_⟩
 ·unfold keyOf;rw[Tryz.underlying31];dsimp only;rw[if_pos (by rw[kt];simp[Value.formed,Tryz.underlying31,hl,c16]),hd];show ((Tryz.prog.keyLits (d+2) 31 (bvals z).toList).map fun ls=>Lit.string (keyBytes ls))=_;rw[hls]
  rfl
theorem bvals_inj {x y:List Int} (h:bvals x=bvals y):x=y:=by
 have h2:=congrArg Array.toList h;simp only[bvals]at h2;have h3:(x.map (Value.int .u8)).map intOf=(y.map (Value.int .u8)).map intOf:=congrArg (List.map intOf) h2;rw[List.map_map,List.map_map]at h3
 simpa [Function.comp_def,intOf] using h3
theorem key_ne {x y:List Int} {k l:Lit} (hx:keyOf Tryz.prog 31 (.agg (bvals x))=some k) (hy:keyOf Tryz.prog 31 (.agg (bvals y))=some l) (h:x≠y):k≠l:=by
 rintro rfl;have:=keyLaw.inj hx hy
 injection this with this
 exact h (bvals_inj this)
def heldR (v:Value):Option (DataW Value×List MemPlace):=some (.held v,[])
def xat (es:List RcA) (z:List Int):Option RcA:=es.find? fun x=>decide (x.R.z=z)
theorem xat_bat (es:List RcA) (z:List Int):bat (es.map (·.R)) z=(xat es z).map (·.R):=by
 unfold bat xat;rw[List.find?_map]
 rfl
theorem xat_some {es:List RcA} {z:List Int} {x:RcA} (h:xat es z=some x):x∈es∧x.R.z=z:=⟨List.mem_of_find?_eq_some h,by simpa using List.find?_some h⟩
theorem xat_cons (x:RcA) (es:List RcA) (z:List Int):xat (x::es) z=if x.R.z=z then some x else xat es z:=by
 unfold xat;rw[List.find?_cons];by_cases h:x.R.z=z<;>simp[h]
theorem xat_none {es:List RcA} {z:List Int}:xat es z=none↔∀ x∈es,x.R.z≠z:=by
 unfold xat;rw[List.find?_eq_none];simp
theorem xat_mem:∀ {es:List RcA},(es.map (·.R.z)).Nodup→∀ {x:RcA},x∈es→xat es x.R.z=some x
 | [],_,x,h=>by cases h
 | y::ys,hn,x,h=>by
  rw[List.map_cons,List.nodup_cons]at hn;rw[xat_cons];rcases List.mem_cons.1 h with rfl | h
  ·rw[if_pos rfl]
  ·rw[if_neg (fun e=>hn.1 (by rw[e];exact List.mem_map_of_mem h)),xat_mem hn.2 h]
def xput (es:List RcA) (y:RcA):List RcA:=match xat es y.R.z with | none=>es++[y] | some _=>es.map fun x=>if x.R.z=y.R.z then y else x
theorem xat_append (es:List RcA) (y:RcA) (z:List Int):xat (es++[y]) z=(xat es z).or (if y.R.z=z then some y else none):=by
 unfold xat;rw[List.find?_append];by_cases h:y.R.z=z<;>simp[h]
theorem xat_map (y:RcA) (z:List Int):∀ es:List RcA,xat (es.map fun x=>if x.R.z=y.R.z then y else x) z=if y.R.z=z then (xat es z).map (fun _=>y) else xat es z
 | []=>by simp[xat]
 | x::es=>by
  rw[List.map_cons,xat_cons,xat_map y z es,xat_cons];by_cases hx:x.R.z=y.R.z
  ·rw[if_pos hx];by_cases hz:y.R.z=z
   ·rw[if_pos hz,if_pos hz,if_pos (hx.trans hz)];rfl
   ·rw[if_neg hz,if_neg hz,if_neg hz,if_neg (by rw[hx];exact hz)]
  ·rw[if_neg hx];by_cases hz:y.R.z=z
   ·rw[if_pos hz,if_neg (by rw[← hz];exact hx),if_pos hz,if_neg (by rw[← hz];exact hx)]
   ·rw[if_neg hz,if_neg hz]
theorem xat_put (es:List RcA) (y:RcA) (z:List Int):xat (xput es y) z=if y.R.z=z then some y else xat es z:=by
 unfold xput;cases e:xat es y.R.z with
 | none=>
  dsimp only;rw[xat_append];by_cases hz:y.R.z=z
  ·subst hz;rw[if_pos rfl,if_pos rfl,e];rfl
  ·rw[if_neg hz,if_neg hz,Option.or_none]
 | some x=>
  dsimp only;rw[xat_map];by_cases hz:y.R.z=z
  ·subst hz;rw[if_pos rfl,if_pos rfl,e];rfl
  ·rw[if_neg hz,if_neg hz]
theorem xput_mem {es:List RcA} {y x:RcA} (h:x∈xput es y):x=y∨x∈es:=by
 unfold xput at h;cases e:xat es y.R.z with
 | none=>
  rw[e]at h;rcases List.mem_append.1 h with h | h
  ·exact .inr h
  ·exact .inl (List.mem_singleton.1 h)
 | some o=>
  rw[e]at h;obtain⟨x',hx',rfl⟩:=List.mem_map.1 h
  split
  ·exact .inl rfl
  ·exact .inr hx'
theorem xput_keys {es:List RcA} {y:RcA} (h:(es.map (·.R.z)).Nodup):((xput es y).map (·.R.z)).Nodup:=by
 unfold xput;cases e:xat es y.R.z with
 | none=>
  dsimp only;rw[List.map_append,List.nodup_append];refine⟨h,by simp,?_⟩;intro a ha b hb e2;simp only[List.map_cons,List.map_nil,List.mem_singleton]at hb;obtain⟨x,hx,rfl⟩:=List.mem_map.1 ha;exact xat_none.1 e x hx (e2.trans hb)
 | some x=>
  dsimp only;rw[List.map_map];have:(fun x:RcA=>x.R.z) ∘ (fun x:RcA=>if x.R.z=y.R.z then y else x)=fun x=>x.R.z:=by
   funext x
   simp only[Function.comp]
   split
   ·rename_i hz;exact hz.symm
   ·rfl
  rw[this];exact h
theorem xput_len (es:List RcA) (y:RcA):(xput es y).length=if (xat es y.R.z).isSome then es.length else es.length+1:=by
 unfold xput;cases e:xat es y.R.z<;>simp
theorem xput_mput {es:List RcA} {y:RcA} {r:Rc} (h:(es.map (·.R.z)).Nodup) (hz:r.z=y.R.z) (hy:y.R=bone (bat (es.map (·.R)) r.z) r):(xput es y).map (·.R)=mput (es.map (·.R)) r:=by
 have hb:=xat_bat es r.z;unfold xput mput;rw[← hz,hb];rw[hb]at hy;cases e:xat es r.z with
 | none=>
  rw[e]at hy;dsimp only[Option.map_none];rw[List.map_append,List.map_cons,List.map_nil,show y.R=r from hy]
 | some o=>
  rw[e]at hy;dsimp only[Option.map_some];rw[List.map_map,List.map_map];apply List.map_congr_left;intro x hx;simp only[Function.comp];by_cases hxz:x.R.z=r.z
  ·have:=xat_mem h hx;rw[hxz,e]at this;obtain rfl:=Option.some.inj this;rw[if_pos hxz,if_pos hxz];exact hy
  ·rw[if_neg hxz,if_neg hxz]
def MRs (w:World) (b n:Nat) (es:List RcA):Prop:=
 ∃ D:DataW Value,w.ownsMap Tryz.prog 31 heldR b n D∧Maps.size D=es.length∧(es.map (·.R.z)).Nodup∧(∀ x∈es,RvAt w x) ∧
  (∀ z l,keyOf Tryz.prog 31 (.agg (bvals z))=some l→Maps.has D l=(xat es z).isSome∧D.atKey l (.held (.agg rcA0.cells))=.held (.agg ((xat es z).getD rcA0).cells)) ∧
  ∀ l,Maps.has D l=true→∃ x∈es,keyOf Tryz.prog 31 (.agg (bvals x.R.z))=some l
theorem MRs.lt {w:World} {b n:Nat} {es:List RcA} (h:MRs w b n es):b<w.heap.size:=by obtain⟨D,h,_⟩:=h;exact h.lt
theorem MRs.rv {w:World} {b n:Nat} {es:List RcA} (h:MRs w b n es):∀ x∈es,RvAt w x:=by obtain⟨D,_,_,_,h,_⟩:=h;exact h
theorem MRs.keys {w:World} {b n:Nat} {es:List RcA} (h:MRs w b n es):(es.map (·.R.z)).Nodup:=by obtain⟨D,_,_,h,_⟩:=h;exact h
theorem MRs.obj {w:World} {b n:Nat} {es:List RcA} (h:MRs w b n es):∃ E cl,w.heap[b]?=some (.map E cl):=by obtain⟨D,⟨E,cl,h,_⟩,_⟩:=h;exact⟨E,cl,h⟩
theorem MRs.below {w w':World} {b n B:Nat} {es:List RcA} (h:MRs w b n es) (hb:Below B w w') (hB:w.heap.size≤B):MRs w' b n es:=by
 have hlt:=h.lt;obtain⟨D,⟨E,clock,hh,r⟩,h1,h2,h3,h4,h5⟩:=h;exact⟨D,⟨E,clock,(hb.block b (Nat.lt_of_lt_of_le hlt hB)).trans hh,r⟩,h1,h2,fun x hx=>(h3 x hx).below hb hB,h4,h5⟩
theorem MRs.made (w:World):MRs (w.alloc (.map #[] 0)) w.heap.size 0 []:=
 ⟨.map [],World.ownsMap_made w _ _ _,rfl,List.nodup_nil,(fun x hx=>absurd hx (by simp)),(fun z l _=>⟨rfl,Maps.atKey_of_not_has rfl _⟩),(fun l h=>by simp[Maps.has]at h)⟩
theorem MRs.look {w:World} {b n:Nat} {es:List RcA} (h:MRs w b n es) {z:List Int} (h16:z.length=16) (hb:AllBytes z):
  (Instr.lookup 84 (.map (some b)) (.agg (bvals z)) true).run Tryz.prog w=.ok (.tuple #[.agg ((xat es z).getD rcA0).cells,.bool (xat es z).isSome]) w:=by
 obtain⟨D,h1,_,_,_,h4,_⟩:=h;obtain⟨l,hl⟩:=key_id h16 hb;obtain⟨v,ps,hr,hv⟩:=h1.look_ok keyID Tryz.underlying84 (zeroX w) (zd:=.held (.agg rcA0.cells)) (zp:=[]) rfl hl;rw[(h4 z l hl).2]at hv;simp only[heldR,Option.some.injEq,Prod.mk.injEq,DataW.held.injEq]at hv;rw[hr,(h4 z l hl).1,hv.1]
theorem has_size {D:DataW Value} (hT:Maps.Tidy D) (l:Lit) (d:DataW Value):Maps.size (D.put l d)=if Maps.has D l then Maps.size D else Maps.size D+1:=Maps.size_put hT d
theorem MRs.store {w:World} {b n:Nat} {es:List RcA} (h:MRs w b n es) (hn:n<1000) {y:RcA} (hy:RvAt w y):
  ∃ w',(Instr.mapUpdate 84 (.map (some b)) (.agg (bvals y.R.z)) (.agg y.cells)).run Tryz.prog w=.ok () w'∧MRs w' b (n+1) (xput es y)∧w.grownBy w' (some b):=by
 obtain⟨E,cl,hobj⟩:=h.obj;obtain⟨D,h1,h2,h3,h4,h5,h6⟩:=h;obtain⟨l,hl⟩:=key_id hy.len hy.1.2;obtain⟨w',hr,ho,hg⟩:=h1.update keyID Tryz.underlying84 (by simp only[maxLen];omega) hl (d:=.held (.agg y.cells)) (ps:=[]) rfl;have hkl:=keyID.key hl;refine⟨w',hr,⟨_,ho,?_,xput_keys h3,fun x hx=>?_,fun z l' hl'=>?_,fun l' hl'=>?_⟩,hg⟩
 ·rw[has_size (h1.tidy keyID),(h5 _ _ hl).1,xput_len,h2]
 ·rcases xput_mem hx with rfl | hx
  ·exact hy.kept_map hg hobj
  ·exact (h4 x hx).kept_map hg hobj
 ·rw[xat_put];by_cases hz:y.R.z=z
  ·subst hz;rw[hl]at hl';obtain rfl:=Option.some.inj hl';rw[if_pos rfl];exact⟨Maps.has_put_same h1.isMap hkl _,Maps.atKey_put_same h1.isMap hkl _ _⟩
  ·rw[if_neg hz];have hne:l'≠l:=key_ne hl' hl (fun e=>hz e.symm);rw[Maps.has_put_other hne,Maps.atKey_put_other hne];exact h5 z l' hl'
 ·by_cases hne:l'=l
  ·subst hne;have:(xat (xput es y) y.R.z)=some y:=by rw[xat_put,if_pos rfl]
   exact⟨y,(xat_some this).1,hl⟩
  ·rw[Maps.has_put_other hne]at hl';obtain⟨x,hx,hk⟩:=h6 l' hl';have hxz:y.R.z≠x.R.z:=fun e=>by rw[e,hk]at hl;exact hne (Option.some.inj hl)
   have:(xat (xput es y) x.R.z)=some x:=by rw[xat_put,if_neg hxz];exact xat_mem h3 hx
   exact⟨x,(xat_some this).1,hk⟩
end
section
open Go.RowKit WM
def zrc:Value:=.agg rcA0.cells
theorem zrc_size:zrc.cells.size=19:=cells_len z16_len
theorem infoRec:(Tryz.prog.info? 36).map (fun i=>(i.zero,i.size,i.bytes))=some (some zrc,19,56):=by kernel_rfl
theorem wpList_append_rec {P:Program} (w:World) {ops:Array Oper} {rest:List Oper} {o:Oper} {a:Act} {Q:Exit→Act→World→Prop} (hgd:o.guard=none) (s x:Operand) (t:TypeId)
  (ho:o.op=.call { callee:=.builtin .append,args:=#[s,x],argTypes:=#[t,t]})
  (base:Nat) (e:TypeId) (i:TypeInfo) (ht:P.underlying t=some (.slice e)) (hi:P.info? e=some i) (hz:i.zero=some zrc) (hsize:i.size=19) (hby:i.bytes=56)
  (v:Value) (n:Nat) (gs:List RcA) (hs:a.eval s=v) (hown:w.ownsRow base e 19 v n (gs.flatMap RcA.cs))
  (A:Option Addr) (m c:Nat) (fs:List RcA) (hx:a.eval x=.slice A m c) (hr:RsAt w A c fs) (hl:fs.length=m) (hlen:n+m≤100000) (hbase:base≤w.heap.size)
  (h:∀ v' w',w'.ownsRow base e 19 v' (n+m) ((gs++fs).flatMap RcA.cs)→w.grownBy w' v.ownBlock→wpList P ops Q rest (a.put o.dst v') w'):wpList P ops Q (o::rest) a w:=by
 have fin:∀ ad:Addr,A=some ad→(∀ j u,(fs.flatMap RcA.cs)[j]?=some u→w.cell? (ad.add j)=some u)→wpList P ops Q (o::rest) a w:=by
  intro ad hA hc;subst hA;refine wpList_append_own w hgd s x t ho base e i zrc 19 56 ht hi hz hsize hby zrc_size (by omega) v n _ hs hown ad m c (fs.flatMap RcA.cs) hx (by rw[recs_len (fun x hxx=>(hr.2.2.2.2 x hxx).len),hl]) hc (recs_one fs) (by simp only[maxLen];omega) (by omega) hbase ?_;exact Tta53
 obtain⟨h1,h2,h3,h4,h5⟩:=hr;have hz16:∀ x∈fs,x.R.z.length=16:=fun x hxx=>(h5 x hxx).len;by_cases hn:fs=[]
 ·subst hn;cases A with
  | none=>
   have hc0:=h3 rfl;simp at hl;subst hl;subst hc0;refine wpList_append_own_none hgd s x t ho base e i 19 ht hi v n _ hs hown hx ?_;exact h v w (by simpa using hown) (World.grownBy.refl w _)
  | some ad=>exact fin ad rfl (fun j u hj=>by simp at hj)
 ·obtain⟨b,off,hA,_,hc⟩:=h4 (List.length_pos_iff.2 hn);refine fin _ hA (fun j u hj=>?_);have hjl:=(List.getElem?_eq_some_iff.1 hj).1;rw[recs_len hz16]at hjl;have hij:j=j / 19*19+j % 19:=by omega
  have hi':j / 19<fs.length:=by omega
  rw[hij,recs_at hz16 hi' (by omega)]at hj;rw[Addr.add_lit,show off+j=off+j / 19*19+j % 19 by omega,(hc (j / 19) hi').2 (j % 19) (by omega)];exact hj
def GrowPostB (w:World) (e:Ending) (w':World):Prop:=∃ v,e=.returned v∧w'.ownsRow w.heap.size 36 19 v 0 []∧Below w.heap.size w w'
theorem slr_h (A:Option Addr) (len cap h:Nat) (h2:h≤cap) (H:Int) (eH:H=h) (w:World):(Instr.slice 22 (.slice A len cap) none (some (.int .i64 H)) none).run Tryz.prog w=.ok (.slice A h cap) w:=by
 subst eH;rw[run_slice_h w 22 _ len cap (by rw[elemRec];exact Tryz.underlying22) .i64 h (by omega) (by omega),elemRec,sizeRecW];exact Tta38
theorem bgrow_any (n:Nat) (w:World) (hn:n≤1000):Calls Tryz.prog 83 #[.slice none 0 0,.int .i64 n] w (GrowPostB w):=by
 by_cases h0:n=0
 ·subst h0;go_enter Tryz.func83,Tryz.ntmps83;go_wp2;go_ret;exact⟨_,rfl,World.ownsRow_nil _ _ _ _,Below.refl _ _⟩
 ·obtain⟨i0,hi,hz0,hz1,hz2⟩:=info_parts infoRec;have happ:=Lib.run_append_nil_zeros (P:=Tryz.prog) w 22 3 22 36 i0 zrc .i64 .i64 Tryz.underlying22 Tryz.underlying3 hi hz0 n (by omega) (by omega) (by omega) (by rw[hz2];omega);have hg:=grownCap_ge w n 0 36;have hm:=grownCap_le_maxLen w n 0 36 (by simp only[maxLen];omega);generalize grownCap w n 0 36=C at happ hg hm;have hs:(Builtin.zeroCells zrc.cells n++Builtin.zeroCells zrc.cells (C - n)).size=C*19:=by
   rw[Array.size_append,size_zeroCells,size_zeroCells,zrc_size];omega
  generalize Builtin.zeroCells zrc.cells n++Builtin.zeroCells zrc.cells (C - n)=Z at happ hs;have HO:=Yy (World.ownsRow_made (base:=w.heap.size) (size:=19) (e:=36) w.drew Z C Nl hm hs);have HB:=Yy (((Below.refl w.heap.size w).drew).alloc Nl (.cells Z 36));have s1:=slr_h none 0 0 0 Nl 0 rfl;have s2:=slr_h (some ⟨w.heap.size,0,none⟩) n C 0 (Nat.zero_le _) 0 rfl;have t1:¬ (n:Int)<0:=by omega
  have t2:(0:Int)<(n:Int):=by omega
  simp only[maxLen]at hm;clear hs h0;go_enter Tryz.func83,Tryz.ntmps83;exact Tta45
def ConcatPostB (w:World) (fs:List RcA) (e:Ending) (w':World):Prop:=∃ A n c,e=.returned (.slice A n c)∧fs.length=n∧RsAt w' A c fs∧Below w.heap.size w w'
theorem bconcat_own {w w':World} {v:Value} {n:Nat} {fs:List RcA} (hl:fs.length=n) (hv:∀ x∈fs,RvAt w' x) (ho:w'.ownsRow w.heap.size 36 19 v n (fs.flatMap RcA.cs)) (hb:Below w.heap.size w w'):ConcatPostB w fs (.returned v) w':=by
 subst hl;have ho':=ho;rcases ho.2 with ⟨rfl,h0⟩ | ⟨g,cap,cur,rfl,_⟩
 ·rw[h0]at ho';exact⟨none,0,0,rfl,h0,RsAt.own (base:=w.heap.size) (by rw[h0];exact ho') hv,hb⟩
 ·exact⟨_,_,cap,rfl,rfl,RsAt.own ho' hv,hb⟩
theorem bconcat_any (g:Nat) (A1 A2:Option Addr) (l1 l2 c1 c2:Nat) (f1 f2:List RcA) (w:World) (hg:g<w.heap.size) (hg0:w.cell? ⟨g,0,none⟩=some (.slice A1 l1 c1)) (hg1:w.cell? ⟨g,1,none⟩=some (.slice A2 l2 c2))
  (hl1:f1.length=l1) (hl2:f2.length=l2) (h1:RsAt w A1 c1 f1) (h2:RsAt w A2 c2 f2) (hs:l1+l2≤1000):
  Calls Tryz.prog 53 #[.slice (some ⟨g,0,none⟩) 2 2] w (ConcatPostB w (f1++f2)):=by
 have HG:=Yy (bgrow_any (l1+l2));rw[Int.natCast_add]at HG;unfold GrowPostB at HG;have t1:¬ (l1:Int)<0:=by omega
 have t2:¬ (l1:Int)+(l2:Int)<0:=by omega
 obtain⟨i0,hi,hz0,hz1,hz2⟩:=info_parts infoRec;have HL1:=Yy hl1;have HL2:=Yy hl2;have H1:=Yy h1;have H2:=Yy h2;have HV1:=Yy h1.2.2.2.2;have HV2:=Yy h2.2.2.2.2;clear hl1 hl2 h1 h2;go_enter Tryz.func53,Tryz.ntmps53;go_wp2;refine wp_loop_rounds 3 ?_;rw[rounds_succ];go_wp2;rw[rounds_succ];go_wp2;rw[rounds_succ];go_wp2_with fail;refine (HG.out _ hs).mono ?_;rintro e w1 ⟨v,rfl,ho,hb⟩;have G1:=Yy hg1;have hg0:=(hb.cell (p:=⟨g,0,none⟩) hg).trans hg0;have hg1:=(hb.cell (p:=⟨g,1,none⟩) hg).trans hg1;have F1:=Yy (H1.out.below hb Nl);have HB:=Yy hb;clear hb hg1;go_wp2;refine wp_loop_rounds 3 ?_;rw[rounds_succ];go_wp2_with (at_builtin;refine wpList_append_rec _ rfl _ _ 22 rfl w.heap.size 36 i0 Tryz.underlying22 hi hz0 hz1 hz2 _ 0 [] rfl ho A1 l1 c1 f1 rfl F1.out HL1.out (by omega) HB.out.size ?_;intro v2 w2 ho2 hg2);have HB2:=HB.out.grown hg2 HB.out.size (fun g hg=>own_base ho hg);have hg1:=(HB2.cell (p:=⟨g,1,none⟩) hg).trans G1.out;have F2:=Yy (H2.out.below HB2 Nl);have HB2:=Yy HB2;clear hg2 hg0;rw[List.nil_append]at ho2;rw[rounds_succ];go_wp2_with (at_builtin;refine wpList_append_rec _ rfl _ _ 22 rfl w.heap.size 36 i0 Tryz.underlying22 hi hz0 hz1 hz2 _ _ f1 rfl ho2 A2 l2 c2 f2 rfl F2.out HL2.out (by omega) HB2.out.size ?_;intro v3 w3 ho3 hg3);have HB3:=Yy (HB2.out.grown hg3 HB2.out.size (fun g hg=>own_base ho2 hg));have HO3:=Yy ho3;clear hg3 hg1 ho ho2 ho3;rw[rounds_succ];go_wp2;go_ret;exact bconcat_own (by rw[List.length_append,HL1.out,HL2.out];omega) (fun x hx=>by
  rcases List.mem_append.1 hx with hx | hx
  ·exact (HV1.out x hx).below HB3.out Nl
  ·exact (HV2.out x hx).below HB3.out Nl) HO3.out HB3.out
end
end
end Go.Proofs.YtnlhkpmgbpfjmaaGreatDoor
