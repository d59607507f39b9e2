import Derived.Test.YtnlhkpmgbpfjmaaGreatDoorQe8
import Derived.RangeFuncNested
import Derived.RangeFuncBound
import Derived.RangeFuncCalls
import Derived.RangeFuncLeaves
import Derived.Shelf.Abstract
import Derived.Shelf.RegionOpen
import Derived.OwnWalkIn
import Derived.TacticsInMore
import Derived.LoopNIn
import Derived.LoopIn
import Derived.Maps.OwnIn
/- What functions answer, part 10. -/
namespace Go.Proofs.YtnlhkpmgbpfjmaaGreatDoor
set_option linter.unusedVariables false
set_option linter.unusedSimpArgs false
set_option maxHeartbeats 16000000
set_option maxRecDepth 100000
section
open Go.RowKit WM
def zfld:Value:=.agg #[.int .i64 0,.int .i64 0,.int .i64 0,.string ⟨#[]⟩]
theorem infoFld:(Tryz.prog.info? 59).map (fun i=>(i.zero,i.size,i.bytes))=some (some zfld,4,40):=by kernel_rfl
theorem flds_one (fs:List Fld):∀ u∈fs.flatMap Fld.cs,u.oneCell'=true:=by
 intro u hu;obtain⟨f,_,hf⟩:=List.mem_flatMap.1 hu;simp only[Fld.cs,List.mem_cons,List.not_mem_nil,or_false]at hf;rcases hf with rfl | rfl | rfl | rfl<;>rfl
theorem flds_len (fs:List Fld):(fs.flatMap Fld.cs).length=fs.length*4:=by
 induction fs with
 | nil=>rfl
 | cons f fs ih=>rw[List.flatMap_cons,List.length_append,ih,List.length_cons,show f.cs.length=4 from rfl];omega
theorem flds_at {fs:List Fld} {i j:Nat} (hi:i<fs.length) (hj:j<4):(fs.flatMap Fld.cs)[i*4+j]?=(fs.getD i fld0).cs[j]?:=by
 induction fs generalizing i with
 | nil=>simp at hi
 | cons x fs ih=>
  cases i with
  | zero=>
   exact Tta46
  | succ i=>
   simp only[List.flatMap_cons,List.getD_cons_succ];rw[List.getElem?_append_right (by simp[Fld.cs];omega)];have e:(i+1)*4+j - x.cs.length=i*4+j:=by simp[Fld.cs];omega
   rw[e];exact ih (by simpa using hi)
theorem wpList_append_fld {P:Program} (w:World) {ops:Array Oper} {rest:List Oper} {o:Oper} {a:Act} {Q:Exit→Act→World→Prop} (hgd:o.guard=none) (s x:Operand) (t:TypeId)
  (ho:o.op=.call { callee:=.builtin .append,args:=#[s,x],argTypes:=#[t,t]})
  (base:Nat) (e:TypeId) (i:TypeInfo) (ht:P.underlying t=some (.slice e)) (hi:P.info? e=some i) (hz:i.zero=some zfld) (hsize:i.size=4) (hby:i.bytes=40)
  (v:Value) (n:Nat) (gs:List Fld) (hs:a.eval s=v) (hown:w.ownsRow base e 4 v n (gs.flatMap Fld.cs))
  (A:Option Addr) (m c:Nat) (fs:List Fld) (hx:a.eval x=.slice A m c) (hr:FsAt w A c fs) (hl:fs.length=m) (hlen:n+m≤100000) (hbase:base≤w.heap.size)
  (h:∀ v' w',w'.ownsRow base e 4 v' (n+m) ((gs++fs).flatMap Fld.cs)→w.grownBy w' v.ownBlock→wpList P ops Q rest (a.put o.dst v') w'):wpList P ops Q (o::rest) a w:=by
 have fin:∀ ad:Addr,A=some ad→(∀ j u,(fs.flatMap Fld.cs)[j]?=some u→w.cell? (ad.add j)=some u)→wpList P ops Q (o::rest) a w:=by
  intro ad hA hc;subst hA;refine wpList_append_own w hgd s x t ho base e i zfld 4 40 ht hi hz hsize hby rfl (by omega) v n _ hs hown ad m c (fs.flatMap Fld.cs) hx (by rw[flds_len,hl]) hc (flds_one fs) (by simp only[maxLen];omega) (by omega) hbase ?_;exact Tta53
 obtain⟨h1,h2,h3,h4⟩:=hr;by_cases hn:fs=[]
 ·subst hn;cases A with
  | none=>
   have hc0:=h3 rfl;simp at hl;subst hl;subst hc0;refine wpList_append_own_none hgd s x t ho base e i 4 ht hi v n _ hs hown hx ?_;exact h v w (by simpa using hown) (World.grownBy.refl w _)
  | some ad=>exact fin ad rfl (fun j u hj=>by simp at hj)
 ·obtain⟨b,off,hA,_,hc⟩:=h4 (List.length_pos_iff.2 hn);refine fin _ hA (fun j u hj=>?_);have hjl:=(List.getElem?_eq_some_iff.1 hj).1;rw[flds_len]at hjl;have hij:j=j / 4*4+j % 4:=by omega
  have hi':j / 4<fs.length:=by omega
  rw[hij,flds_at hi' (by omega)]at hj;obtain⟨c0,c1,c2,c3⟩:=hc (j / 4) hi';rw[Addr.add_lit];have hm:j % 4=0∨j % 4=1∨j % 4=2∨j % 4=3:=by omega
  rcases hm with hm | hm | hm | hm
  ·rw[hm]at hj;rw[show off+j=off+j / 4*4 by omega,c0];exact hj
  ·rw[hm]at hj;rw[show off+j=off+j / 4*4+1 by omega,c1];exact hj
  ·rw[hm]at hj;rw[show off+j=off+j / 4*4+2 by omega,c2];exact hj
  ·rw[hm]at hj;rw[show off+j=off+j / 4*4+3 by omega,c3];exact hj
def GrowPost (w:World) (e:Ending) (w':World):Prop:=∃ v,e=.returned v∧w'.ownsRow w.heap.size 59 4 v 0 []∧Below w.heap.size w w'
theorem slf_h (A:Option Addr) (len cap h:Nat) (h2:h≤cap) (H:Int) (eH:H=h) (w:World):(Instr.slice 34 (.slice A len cap) none (some (.int .i64 H)) none).run Tryz.prog w=.ok (.slice A h cap) w:=by
 subst eH;rw[run_slice_h w 34 _ len cap (by rw[elemFld];exact Tryz.underlying34) .i64 h (by omega) (by omega),elemFld,sizeFld];exact Tta38
theorem Tta45 {p:Prop} (h:p:=by
  go_wp2_with (at_builtin;refine Lib.wpList_append_run _ rfl _ _ _ _ rfl _ _ rfl rfl _ _ happ ?_);go_ret;exact⟨_,rfl,HO.out,HB.out⟩
 ):p:=h
theorem grow_any (n:Nat) (w:World) (hn:n≤1000):Calls Tryz.prog 127 #[.slice none 0 0,.int .i64 n] w (GrowPost w):=by
 by_cases h0:n=0
 ·subst h0;go_enter Tryz.func127,Tryz.ntmps127;go_wp2;go_ret;exact⟨_,rfl,World.ownsRow_nil _ _ _ _,Below.refl _ _⟩
 ·obtain⟨i0,hi,hz0,hz1,hz2⟩:=info_parts infoFld;have happ:=Lib.run_append_nil_zeros (P:=Tryz.prog) w 34 3 34 59 i0 zfld .i64 .i64 Tryz.underlying34 Tryz.underlying3 hi hz0 n (by omega) (by omega) (by omega) (by rw[hz2];omega);have hg:=grownCap_ge w n 0 59;have hm:=grownCap_le_maxLen w n 0 59 (by simp only[maxLen];omega);generalize grownCap w n 0 59=C at happ hg hm;have hs:(Builtin.zeroCells zfld.cells n++Builtin.zeroCells zfld.cells (C - n)).size=C*4:=by
   rw[Array.size_append,size_zeroCells,size_zeroCells,show zfld.cells.size=4 from rfl];omega
  generalize Builtin.zeroCells zfld.cells n++Builtin.zeroCells zfld.cells (C - n)=Z at happ hs;have HO:=Yy (World.ownsRow_made (base:=w.heap.size) (size:=4) (e:=59) w.drew Z C Nl hm hs);have HB:=Yy (((Below.refl w.heap.size w).drew).alloc Nl (.cells Z 59));have s1:=slf_h none 0 0 0 Nl 0 rfl;have s2:=slf_h (some ⟨w.heap.size,0,none⟩) n C 0 (Nat.zero_le _) 0 rfl;have t1:¬ (n:Int)<0:=by omega
  have t2:(0:Int)<(n:Int):=by omega
  simp only[maxLen]at hm;clear hs h0;go_enter Tryz.func127,Tryz.ntmps127;exact Tta45
def ConcatPost (w:World) (fs:List Fld) (e:Ending) (w':World):Prop:=∃ A n c,e=.returned (.slice A n c)∧fs.length=n∧FsAt w' A c fs∧Below w.heap.size w w'
theorem concat_own {w w':World} {v:Value} {n:Nat} {fs:List Fld} (hl:fs.length=n) (ho:w'.ownsRow w.heap.size 59 4 v n (fs.flatMap Fld.cs)) (hb:Below w.heap.size w w'):ConcatPost w fs (.returned v) w':=by
 subst hl;have ho':=ho;rcases ho.2 with ⟨rfl,h0⟩ | ⟨g,cap,cur,rfl,_⟩
 ·rw[h0]at ho';exact⟨none,0,0,rfl,h0,FsAt.own (base:=w.heap.size) (by rw[h0];exact ho'),hb⟩
 ·exact⟨_,_,cap,rfl,rfl,FsAt.own ho',hb⟩
theorem concat_any (g:Nat) (A1 A2:Option Addr) (l1 l2 c1 c2:Nat) (f1 f2:List Fld) (w:World) (hg:g<w.heap.size) (hg0:w.cell? ⟨g,0,none⟩=some (.slice A1 l1 c1)) (hg1:w.cell? ⟨g,1,none⟩=some (.slice A2 l2 c2))
  (hl1:f1.length=l1) (hl2:f2.length=l2) (h1:FsAt w A1 c1 f1) (h2:FsAt w A2 c2 f2) (hs:l1+l2≤1000):
  Calls Tryz.prog 111 #[.slice (some ⟨g,0,none⟩) 2 2] w (ConcatPost w (f1++f2)):=by
 have HG:=Yy (grow_any (l1+l2));rw[Int.natCast_add]at HG;unfold GrowPost at HG;have t1:¬ (l1:Int)<0:=by omega
 have t2:¬ (l1:Int)+(l2:Int)<0:=by omega
 obtain⟨i0,hi,hz0,hz1,hz2⟩:=info_parts infoFld;have HL1:=Yy hl1;have HL2:=Yy hl2;have H1:=Yy h1;have H2:=Yy h2;clear hl1 hl2 h1 h2;go_enter Tryz.func111,Tryz.ntmps111;go_wp2;refine wp_loop_rounds 3 ?_;rw[rounds_succ];go_wp2;rw[rounds_succ];go_wp2;rw[rounds_succ];go_wp2_with fail;refine (HG.out _ hs).mono ?_;rintro e w1 ⟨v,rfl,ho,hb⟩;have G1:=Yy hg1;have hg0:=(hb.cell (p:=⟨g,0,none⟩) hg).trans hg0;have hg1:=(hb.cell (p:=⟨g,1,none⟩) hg).trans hg1;have F1:=Yy (H1.out.below hb Nl);have HB:=Yy hb;clear hb hg1;go_wp2;refine wp_loop_rounds 3 ?_;rw[rounds_succ];go_wp2_with (at_builtin;refine wpList_append_fld _ rfl _ _ 34 rfl w.heap.size 59 i0 Tryz.underlying34 hi hz0 hz1 hz2 _ 0 [] rfl ho A1 l1 c1 f1 rfl F1.out HL1.out (by omega) HB.out.size ?_;intro v2 w2 ho2 hg2);have HB2:=HB.out.grown hg2 HB.out.size (fun g hg=>own_base ho hg);have hg1:=(HB2.cell (p:=⟨g,1,none⟩) hg).trans G1.out;have F2:=Yy (H2.out.below HB2 Nl);have HB2:=Yy HB2;clear hg2 hg0;rw[List.nil_append]at ho2;rw[rounds_succ];go_wp2_with (at_builtin;refine wpList_append_fld _ rfl _ _ 34 rfl w.heap.size 59 i0 Tryz.underlying34 hi hz0 hz1 hz2 _ _ f1 rfl ho2 A2 l2 c2 f2 rfl F2.out HL2.out (by omega) HB2.out.size ?_;intro v3 w3 ho3 hg3);have HB3:=Yy (HB2.out.grown hg3 HB2.out.size (fun g hg=>own_base ho2 hg));have HO3:=Yy ho3;clear hg3 hg1 ho ho2 ho3;rw[rounds_succ];go_wp2;go_ret;exact concat_own (by rw[List.length_append,HL1.out,HL2.out];omega) HO3.out HB3.out
end
section
section
open Go.RowKit WM
theorem cel_inj {a b:Cel} (h:a.v=b.v):a=b:=by
 obtain⟨n,r,s⟩:=a;obtain⟨m,q,t⟩:=b;simp only[Cel.v,Value.agg.injEq]at h;cases h
 rfl
def celD (c:Cel):DataW Unit:=.agg [.lit (.int .i64 c.n),.lit (.int .i64 c.r),.lit (.string c.s.data.toList)]
theorem celD_inj {a b:Cel} (h:celD a=celD b):a=b:=by
 obtain⟨n,r,⟨s⟩⟩:=a;obtain⟨m,q,⟨t⟩⟩:=b;simp only[celD,DataW.agg.injEq,List.cons.injEq,DataW.lit.injEq,Lit.int.injEq,Lit.string.injEq,true_and,and_true,Array.toList_inj]at h;obtain⟨rfl,rfl,rfl⟩:=h
 rfl
open Classical in
noncomputable def celR (v:Value):Option (DataW Unit×List MemPlace):=if h:∃ c:Cel,v=c.v then some (celD h.choose,[]) else none
theorem celR_mk (c:Cel):celR c.v=some (celD c,[]):=by
 have h:∃ d:Cel,c.v=d.v:=⟨c,rfl⟩;rw[celR,dif_pos h,← cel_inj h.choose_spec]
theorem celR_inv {v:Value} {c:Cel} {ps:List MemPlace} (h:celR v=some (celD c,ps)):v=c.v:=by
 unfold celR at h
 split at h
 ·rename_i hh
  simp only[Option.some.injEq,Prod.mk.injEq]at h;rw[hh.choose_spec,celD_inj h.1]
 ·cases h
def MIs (w:World) (b n:Nat) (f:Int→Option Cel):Prop:=
 ∃ D:DataW Unit,w.ownsMap Tryz.prog 3 celR b n D∧∀ k:Int,Maps.has D (.int .i64 k)=(f k).isSome∧D.atKey (.int .i64 k) (celD cel00)=celD ((f k).getD cel00)
theorem keyI:Maps.Keyed Tryz.prog 3:=Maps.int_keyed Tryz.underlying3
theorem zeroCel (w:World):(zeroValue 38).run Tryz.prog w=.ok cel00.v w:=(zero_of_info (show (Tryz.prog.info? 38).map (fun i=>(i.zero,i.size))=some (some cel00.v,3) by kernel_rfl)).1 w
theorem MIs.lt {w:World} {b n:Nat} {f:Int→Option Cel} (h:MIs w b n f):b<w.heap.size:=by obtain⟨D,h,_⟩:=h;exact h.lt
theorem MIs.same {w w':World} {b n:Nat} {f:Int→Option Cel} (h:MIs w b n f) (hb:w'.heap[b]?=w.heap[b]?):MIs w' b n f:=by
 obtain⟨D,⟨es,clock,hh,r⟩,h2⟩:=h;exact⟨D,⟨es,clock,hb.trans hh,r⟩,h2⟩
theorem MIs.below {w w':World} {b n B:Nat} {f:Int→Option Cel} (h:MIs w b n f) (hb:Below B w w') (hB:b<B):MIs w' b n f:=h.same (hb.block b hB)
theorem MIs.made (w:World):MIs (w.alloc (.map #[] 0)) w.heap.size 0 (fun _=>none):=
 ⟨.map [],World.ownsMap_made w _ _ _,fun k=>⟨rfl,Maps.atKey_of_not_has rfl _⟩⟩
theorem Tta54 {p:Prop} (h:p:=by
  simp[Lit.wf,IntKind.min,IntKind.max,IntKind.bits,IntKind.signed];omega
 ):p:=h
theorem wf_i64 {k:Int} (h0:-9223372036854775808≤k) (h1:k≤9223372036854775807):(Lit.int .i64 k).wf=true:=by
 exact Tta54
theorem MIs.look {w:World} {b n:Nat} {f:Int→Option Cel} (h:MIs w b n f) {k:Int} (hk:(Lit.int .i64 k).wf=true):
  (Instr.lookup 142 (.map (some b)) (.int .i64 k) true).run Tryz.prog w=.ok (.tuple #[((f k).getD cel00).v,.bool (f k).isSome]) w:=by
 obtain⟨D,h1,h2⟩:=h;obtain⟨v,ps,hr,hv⟩:=h1.look_ok keyI Tryz.underlying142 (zeroCel w) (celR_mk cel00) (Maps.keyOf_int_mk Tryz.underlying3 hk);rw[(h2 k).2]at hv;rw[hr,(h2 k).1,celR_inv hv]
theorem MIs.store {w:World} {b n:Nat} {f:Int→Option Cel} (h:MIs w b n f) (hn:n<1000) {k:Int} (hk:(Lit.int .i64 k).wf=true) (c:Cel):
  ∃ w',(Instr.mapUpdate 142 (.map (some b)) (.int .i64 k) c.v).run Tryz.prog w=.ok () w'∧MIs w' b (n+1) (fun j=>if j=k then some c else f j)∧w.grownBy w' (some b):=by
 obtain⟨D,h1,h2⟩:=h;obtain⟨w',hr,ho,hg⟩:=h1.update keyI Tryz.underlying142 (by simp only[maxLen];omega) (Maps.keyOf_int_mk Tryz.underlying3 hk) (celR_mk c);refine⟨w',hr,⟨_,ho,fun j=>?_⟩,hg⟩;dsimp only;by_cases hj:j=k
 ·subst hj;rw[if_pos rfl];exact⟨Maps.has_put_same h1.isMap (by simp[WideAt.IsKeyLit]) _,Maps.atKey_put_same h1.isMap (by simp[WideAt.IsKeyLit]) _ _⟩
 ·rw[if_neg hj];have hne:(Lit.int .i64 j)≠(.int .i64 k):=fun e=>hj (by simpa using e);rw[Maps.has_put_other hne,Maps.atKey_put_other hne];exact h2 j
theorem wpList_mapUpdate_cel {w:World} {ops:Array Oper} {rest:List Oper} {o:Oper} {a:Act} {Q:Exit→Act→World→Prop} (hgd:o.guard=none) (m x v:Operand) (hop:o.op=Op.mapUpdate 142 m x v)
  (b n:Nat) (f:Int→Option Cel) (k:Int) (c:Cel) (hm:a.eval m=.map (some b)) (hx:a.eval x=.int .i64 k) (hv:a.eval v=c.v) (h:MIs w b n f) (hn:n<1000) (hk:(Lit.int .i64 k).wf=true)
  (hK:∀ w',MIs w' b (n+1) (fun j=>if j=k then some c else f j)→w.grownBy w' (some b)→wpList Tryz.prog ops Q rest (a.put o.dst undef) w'):wpList Tryz.prog ops Q (o::rest) a w:=by
 refine wpList_plain hgd fun K' hK'=>?_;obtain⟨w',hrun,r1,r2⟩:=h.store hn hk c;unfold Oper.wp;simp[execOp,hop,hm,hx,hv,hrun,Result.andThen];exact hK' _ _ (hK w' r1 r2)
end
section
open Go.RowKit WM
def gone (o:Option Cel) (c:Cel):Cel:=match o with | some d=>cjoin d c | none=>c
def gstep (f:Int→Option Cel) (x:Fld):Int→Option Cel:=fun j=>if j=x.no then some (gone (f x.no) x.c) else f j
def gath (fs:List Fld):Int→Option Cel:=fs.foldl gstep (fun _=>none)
theorem gath_snoc {fs:List Fld} {k:Nat} (hk:k<fs.length):gath (fs.take (k+1))=gstep (gath (fs.take k)) (fs.getD k fld0):=by
 rw[List.take_succ_eq_append_getElem hk,gath,List.foldl_append];simp only[List.foldl_cons,List.foldl_nil,List.getD,List.getElem?_eq_getElem hk,Option.getD_some]
 rfl
def Small (f:Int→Option Cel):Prop:=∀ j c,f j=some c→c.s.size≤300
theorem gone_small {o:Option Cel} {c:Cel} (ho:∀ d,o=some d→d.s.size≤300) (hc:c.s.size≤300):(gone o c).s.size≤300:=by
 cases o with
 | none=>exact hc
 | some d=>exact cjoin_size (ho d rfl) hc
theorem gstep_small {f:Int→Option Cel} {x:Fld} (hf:Small f) (hx:x.c.s.size≤300):Small (gstep f x):=by
 intro j c h;unfold gstep at h
 split at h
 ·cases h;exact gone_small (fun d hd=>hf _ d hd) hx
 ·exact hf j c h
theorem FlAt.put3 {w:World} {b:Nat} {f:Fld} (h:FlAt w b f) (c:Cel):FlAt (((w.setCell ⟨b,1,none⟩ (.int .i64 c.n)).setCell ⟨b,2,none⟩ (.int .i64 c.r)).setCell ⟨b,3,none⟩ (.string c.s)) b ⟨f.no,c⟩:=by
 unfold FlAt;rw[heap_setCell_same _ _ _ _ _ _ (heap_setCell_same _ _ _ _ _ _ (heap_setCell_same _ _ _ _ _ _ h))]
 rfl
theorem below_put3' {B:Nat} {a w:World} (h:Below B a w) {b:Nat} (hb:B≤b) (u v x:Value):Below B a (((w.setCell ⟨b,1,none⟩ u).setCell ⟨b,2,none⟩ v).setCell ⟨b,3,none⟩ x):=((h.setCell hb u).setCell hb v).setCell hb x
def GatherPost (w:World) (fs:List Fld) (e:Ending) (w':World):Prop:=∃ b n,e=.returned (.map (some b))∧w.heap.size≤b∧MIs w' b n (gath fs)∧Below w.heap.size w w'
theorem Tta30 {p:Prop} (h:p:=by
  clear hg5 hM5;go_roundw
  case rel=>exact⟨k+1,by omega,by go_num,by rw[HGS.out,HGV.out];exact HM5.out,by rw[HGS.out];exact HSM.out,HB5.out⟩
  case measure=>simp[intOf];omega
 ):p:=h
theorem gather_any (A:Option Addr) (len c:Nat) (fs:List Fld) (w:World) (hlaid:Laid w) (hl:fs.length=len) (hlen:len≤900) (h:FsAt w A c fs)
  (hfs:∀ i,i<len→(Lit.int .i64 (fs.getD i fld0).no).wf=true∧(fs.getD i fld0).c.s.size≤300):
  Calls Tryz.prog 110 #[.slice A len c] w (GatherPost w fs):=by
 obtain⟨hc1,hc2,hc3,hcell⟩:=h;simp only[maxLen]at hc2;have hmm:=@run_makeMap Tryz.prog;have HL:=Yy hl;have HC:=Yy hcell;have HW:=Yy hfs;have HLA:=Yy (fun (X:World) (hX:Below w.heap.size w X)=>hlaid.below hX Nl);have hlc:len≤c:=by omega
 have H0:=Yy (And.intro (MIs.made w) ((Below.refl w.heap.size w).alloc Nl (.map #[] 0)));clear hcell hc1 hl hfs hlaid;go_enter Tryz.func110,Tryz.ntmps110;go_wp2;go_loopw [11] (fun i wr=>∃ k:Nat,k≤len∧i=.int .i64 k∧MIs wr w.heap.size k (gath (fs.take k))∧Small (gath (fs.take k))∧Below w.heap.size w wr) (fun i _=>len - (intOf i).toNat)
 case atStart=>exact⟨0,Nat.zero_le _,rfl,H0.out.1,fun j c h=>by simp[gath]at h,H0.out.2⟩
 case round=>
  obtain⟨k,hk,rfl,hM,hS,hb⟩:=hrel;by_cases hlt:k<len
  ·obtain⟨b,off,rfl,hbB,hcc⟩:=HC.out (by rw[HL.out];omega);obtain⟨c0,c1,c2,c3⟩:=hcc k (by rw[HL.out];exact hlt);have c0:=(hb.cell (p:=⟨b,off+k*4,none⟩) hbB).trans c0;have c1:=(hb.cell (p:=⟨b,off+k*4+1,none⟩) hbB).trans c1;have c2:=(hb.cell (p:=⟨b,off+k*4+2,none⟩) hbB).trans c2;have c3:=(hb.cell (p:=⟨b,off+k*4+3,none⟩) hbB).trans c3;have IX:=ix_fld b off len c k hlt k rfl;have hgs:=gath_snoc (fs:=fs) (k:=k) (by rw[HL.out];exact hlt);have hww:=HW.out k hlt;generalize fs.getD k fld0=f at c0 c1 c2 c3 hgs hww;obtain⟨no,x⟩:=f;dsimp only at c0 c1 c2 c3 hww;generalize off+k*4=o at c0 c1 c2 c3 IX;have hlt2:=hM.lt;have hMF:=hM.below ((Below.refl wr.heap.size wr).alloc Nl (.cells #[.int .i64 no,.int .i64 x.n,.int .i64 x.r,.string x.s] 59)) hlt2;have LK:=hMF.look hww.1;have HGS:=Yy hgs;have HWF:=Yy hww;have HSM:=Yy (gstep_small (x:=⟨no,x⟩) hS hww.2);generalize gath (fs.take k)=g at hM hS hMF LK HGS HSM;have HB:=Yy hb;have HM:=Yy hM;have HS:=Yy hS;clear hcc hgs hww hM hMF hS hb;cases hg:g no with
   | none=>
    rw[hg]at LK;dsimp only[Option.getD_none,Option.isSome_none,Cel.v,cel00]at LK;have HGV:=Yy (show gstep g ⟨no,x⟩=fun j=>if j=no then some x else g j by unfold gstep;simp only[hg];rfl);have BN:=Yy (((Below.refl wr.heap.size wr).alloc Nl (.cells #[.int .i64 no,.int .i64 x.n,.int .i64 x.r,.string x.s] 59)).alloc (by simp) (.cells #[.int .i64 0,.int .i64 0,.string ⟨#[]⟩] 38));have MN:=Yy (HM.out.below BN.out hlt2);clear hg;go_wp2_with (at_mapUpdate;refine wpList_mapUpdate_cel rfl _ _ _ rfl w.heap.size k g no x rfl rfl rfl MN.out (by omega) HWF.out.1 ?_;intro w5 hM5 hg5);have HM5:=Yy hM5;have HBN:=Yy (HB.out.trans (BN.out.mono HB.out.size));have HB5:=Yy (HBN.out.grown hg5 HBN.out.size (fun k e=>by cases e;exact Nat.le_refl _));exact Tta30
   | some d=>
    rw[hg]at LK;dsimp only[Option.getD_some,Option.isSome_some,Cel.v]at LK;have HGV:=Yy (show gstep g ⟨no,x⟩=fun j=>if j=no then some (cjoin d x) else g j by unfold gstep;simp only[hg];rfl);have bN:=(((Below.refl wr.heap.size wr).alloc Nl (.cells #[.int .i64 no,.int .i64 x.n,.int .i64 x.r,.string x.s] 59)).alloc (by simp) (.cells #[.int .i64 d.n,.int .i64 d.r,.string d.s] 38));have BN:=Yy bN;have HBN:=Yy (HB.out.trans (bN.mono HB.out.size));have HJ:=Yy (cjoin_any d x _ (HLA.out _ HBN.out) (HS.out _ _ hg) HWF.out.2);have FN:=Yy ((FlAt.new wr ⟨no,x⟩).old (.cells #[.int .i64 d.n,.int .i64 d.r,.string d.s] 38));dsimp only[Cel.v]at FN HJ;generalize cjoin d x=y at HGV HJ;clear hg bN;go_wp2_with fail;refine HJ.out.mono ?_;rintro e w4 ⟨rfl,hb4⟩;have F4:=FN.out.below hb4 FN.out.lt;have e1:=F4.c1;have e2:=F4.c2;have e3:=F4.c3;have f1:=F4.fz 1;have f2:=F4.fz 2;have f3:=F4.fz 3;have F5:=F4.put3 y;have g0:=F5.c0;have g1:=F5.c1;have g2:=F5.c2;have g3:=F5.c3;have B4:=BN.out.trans (hb4.mono BN.out.size);have BP:=Yy (below_put3' B4 (Nat.le_refl wr.heap.size) (.int .i64 y.n) (.int .i64 y.r) (.string y.s));have MN:=Yy (HM.out.below BP.out hlt2);dsimp only at g0 g1 g2 g3;clear hb4 F4 F5 B4 c0 c1 c2 c3;go_wp2_with (at_mapUpdate;refine wpList_mapUpdate_cel rfl _ _ _ rfl w.heap.size k g no y rfl rfl rfl MN.out (by omega) HWF.out.1 ?_;intro w5 hM5 hg5);have HM5:=Yy hM5;have HBP:=Yy (HB.out.trans (BP.out.mono HB.out.size))
    have HB5:=Yy (HBP.out.grown hg5 HBP.out.size (fun k e=>by cases e;exact Nat.le_refl _));exact Tta30
  ·obtain rfl:k=len:=by omega
   rw[List.take_of_length_le (by rw[HL.out];exact Nat.le_refl _)]at hM;have HM:=Yy hM;have HB:=Yy hb;clear hM hb hS;go_wp2;go_ret;exact⟨_,_,rfl,Nat.le_refl _,HM.out,HB.out⟩
end
section
open Go.RowKit Go.Shelf WM
attribute [local go_sem] Oper.semAt_some
def riseL (f:Int→Option Cel):Nat→List (Int×Cel)
 | 0=>[]
 | k+1=>riseL f k++(match f k with | some c=>[((k:Int),c)] | none=>[])
theorem riseL_len (f:Int→Option Cel):∀ k,(riseL f k).length≤k
 | 0=>Nat.le_refl _
 | k+1=>by
  have:=riseL_len f k;rw[riseL,List.length_append];cases f k<;>simp<;>omega
theorem riseL_none {f:Int→Option Cel} {k:Nat} (h:f k=none):riseL f (k+1)=riseL f k:=by simp[riseL,h]
theorem riseL_some {f:Int→Option Cel} {k:Nat} {c:Cel} (h:f k=some c):riseL f (k+1)=riseL f k++[((k:Int),c)]:=by simp[riseL,h]
def encC (x:Int×Cel):Array Value:=#[.int .i64 x.1,x.2.v]
def Kp2 (Bx bm:Nat) (A B:World):Prop:=B.heap[Bx]?=A.heap[Bx]?∧B.heap[bm]?=A.heap[bm]?
def BoxM (w:World) (Bx bm:Nat):Prop:=w.heap[Bx]?=some (.cells #[.map (some bm)] 142)
theorem BoxM.lt {w:World} {Bx bm:Nat} (h:BoxM w Bx bm):Bx<w.heap.size:=(Array.getElem?_eq_some_iff.1 h).1
theorem Tta48 {p:Prop} (h:p:=by
  have HX:=Yy hJx3;clear hJx3;gi_wp2;refine bodyPost_ret (results_none rfl _ _ _) rfl ?_;exact⟨⟨_,rfl⟩,.inr ⟨_,trivial,HX.out⟩⟩
 ):p:=h
theorem rise1_in (n:Nat) (hn:1≤n) (l Bx bm N:Nat) (f:Int→Option Cel) (J Jx:List (Int×Cel)→World→Prop) (W:World) (hJ:AbidesFrom W.heap.size J)
  (hY:∀ pre x W,J pre W→pre.length<8→YieldAt Fence.wide (n - 1) Tryz.prog l (encC x) W fun e W'=>
   (e=.returned (.bool true)∧J (pre++[x]) W'∧Kp2 Bx bm W W')∨(e=.returned (.bool false)∧Jx (pre++[x]) W'))
  (hBx:BoxM W Bx bm) (hM:MIs W bm N f) (h0:J [] W):
  CallsIn Fence.wide n Tryz.prog 125 #[.func (.yield l) #[] #[],.pointer (some ⟨Bx,0,none⟩)] W fun e W'=>(∃ v,e=.returned v) ∧
   ((∃ ys,ys=riseL f 8∧J ys W')∨(∃ pre,True∧Jx pre W')):=by
 refine callsIn_of_wp Tryz.func125 rfl trivial ?_ rfl;simp only[Tryz.ntmps125,List.size_toArray,List.length_cons,List.length_nil,Nat.reduceAdd,Nat.reduceSub,Array.replicate_succ,Array.replicate_zero,List.push_toArray,List.append_toArray,List.nil_append,List.cons_append];gi_wp2
 gi_loopw [6] (fun i wr=>∃ k:Nat,k≤8∧i=.int .i64 k∧J (riseL f k) wr∧MIs wr bm N f∧BoxM wr Bx bm) (fun i _=>8 - (intOf i).toNat)
 case atStart=>exact⟨0,Nat.zero_le _,rfl,h0,hM,hBx⟩
 case round=>
  obtain⟨k,hk,rfl,hJs,hMs,hBs⟩:=hrel;have cB:wr.cell? ⟨Bx,0,none⟩=some (.map (some bm)):=by rw[cell_of_row _ _ _ _ _ _ hBs];rfl
  by_cases hlt:k<8
  ·have LK:=hMs.look (k:=(k:Int)) (wf_i64 (by omega) (by omega));cases hf:f k with
   | none=>
    rw[hf]at LK;dsimp only[Option.getD_none,Option.isSome_none,Cel.v,cel00]at LK;have hJ1:=hJ _ _ _ none hJs (World.grownBy_alloc wr (.cells #[.int .i64 0,.int .i64 0,.string ⟨#[]⟩] 38) none) (fun r e=>by cases e);have hb:=(Below.refl wr.heap.size wr).alloc Nl (.cells #[.int .i64 0,.int .i64 0,.string ⟨#[]⟩] 38);have HJ1:=Yy hJ1;have HM1:=Yy (hMs.below hb hMs.lt);have HB1:Hid (BoxM (wr.alloc (.cells #[.int .i64 0,.int .i64 0,.string ⟨#[]⟩] 38)) Bx bm):=Yy ((hb.block _ hBs.lt).trans hBs);have HR:=Yy (riseL_none hf);clear hJ1 hb hf hJs hMs hBs;gi_wp2;refine⟨fun _ h=>(by cases h),?_⟩;gi_wp2;go_roundw
    case rel=>exact⟨k+1,by omega,by simp,by rw[HR.out];exact HJ1.out,HM1.out,HB1.out⟩
    case measure=>simp[intOf];omega
   | some c=>
    rw[hf]at LK;dsimp only[Option.getD_some,Option.isSome_some,Cel.v]at LK;have hJ1:=hJ _ _ _ none hJs (World.grownBy_alloc wr (.cells #[.int .i64 c.n,.int .i64 c.r,.string c.s] 38) none) (fun r e=>by cases e);have hb:=(Below.refl wr.heap.size wr).alloc Nl (.cells #[.int .i64 c.n,.int .i64 c.r,.string c.s] 38);obtain⟨fn,tmps,assign,body,hy,hR⟩:=hY _ ((k:Int),c) _ hJ1 (Nat.lt_of_le_of_lt (riseL_len f k) hlt);dsimp only[encC,Cel.v]at hy;have HM1:=Yy (hMs.below hb hMs.lt);have HB1:Hid (BoxM (wr.alloc (.cells #[.int .i64 c.n,.int .i64 c.r,.string c.s] 38)) Bx bm):=Yy ((hb.block _ hBs.lt).trans hBs);have HRL:=Yy (riseL_some hf);have HRR:=Yy hR;clear hJ1 hb hf hJs hMs hBs hR;gi_wp2;refine HRR.out.mono ?_;rintro e W3 (⟨rfl,hJ3,hk3⟩ | ⟨rfl,hJx3⟩)
    ·have HJ3:=Yy hJ3;have HM3:=Yy (HM1.out.same hk3.2);have HB3:Hid (BoxM W3 Bx bm):=Yy (hk3.1.trans HB1.out);clear hJ3 hk3;gi_wp2;go_roundw
     case rel=>exact⟨k+1,by omega,by simp,by rw[HRL.out];exact HJ3.out,HM3.out,HB3.out⟩
     case measure=>simp[intOf];omega
    ·exact Tta48
  ·obtain rfl:k=8:=by omega
   have HJ8:=Yy hJs;clear hJs hMs hBs;gi_wp2
   go_end0
   exact⟨⟨_,rfl⟩,.inl ⟨_,rfl,HJ8.out⟩⟩
theorem rise_stops (n:Nat) (hn:1≤n) (Bx bm N:Nat) (f:Int→Option Cel) (w:World) (hBx:BoxM w Bx bm) (hM:MIs w bm N f):
  SeqStopsK Fence.wide n Tryz.prog 125 #[.pointer (some ⟨Bx,0,none⟩)] encC (Kp2 Bx bm) (fun ys=>ys=riseL f 8) (fun _=>True) 8 w:=fun l J Jx W hW hJ _ hY h0=>
 rise1_in n hn l Bx bm N f J Jx W hJ hY ((hW.block _ hBx.lt).trans hBx) (hM.below hW hM.lt) h0
theorem rising_any (bm:Nat) (w:World):Calls Tryz.prog 109 #[.map (some bm)] w fun e w'=>
  e=.returned (.func (.func 125) #[] #[.pointer (some ⟨w.heap.size,0,none⟩)])∧w'=w.alloc (.cells #[.map (some bm)] 142):=by
 go_enter Tryz.func109,Tryz.ntmps109;go_wp2;go_ret;exact⟨rfl,rfl⟩
end
end
end Go.Proofs.YtnlhkpmgbpfjmaaGreatDoor
