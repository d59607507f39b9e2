import Derived.Test.YtnlhkpmgbpfjmaaGreatDoorQd4
/- What functions answer, part 9. -/
namespace Go.Proofs.YtnlhkpmgbpfjmaaGreatDoor
set_option linter.unusedVariables false
set_option linter.unusedSimpArgs false
set_option maxHeartbeats 16000000
set_option maxRecDepth 100000
section
section
open Go.RowKit WM
theorem rturned (x:Nat) (n:Int) (w:World) (h:x<4294967296) (h1:1≤n) (h2:n≤31):
  Calls Tryz.prog 100 #[.int .u32 x,.int .u32 n] w fun e w'=>e=.returned (.int .u32 (SH.rotr x n.toNat:Nat))∧w'=w:=by
 obtain⟨m,rfl⟩:∃ m:Nat,n=m:=⟨n.toNat,by omega⟩;have hw:((32:Int) - (m:Int)) % 4294967296=((32 - m:Nat):Int):=by omega
 have hw2:IntKind.u32.wrap ((32:Int) - (m:Int))=((32 - m:Nat):Int):=by rw[IntWalk.u32_in _ (by omega)];omega
 have hl:Op.shift BinOp.shl .u32 (x:Int) .u32 ((32 - m:Nat):Int)=pure (.int .u32 ((x*2 ^ (32 - m) % 4294967296:Nat):Int)):=by
  exact Tta75
 have hr:Op.shift BinOp.shr .u32 (x:Int) .u32 (m:Int)=pure (.int .u32 ((x / 2 ^ m:Nat):Int)):=by
  rw[shift_shr_any _ _ _ _ (by omega),Int.toNat_natCast,show IntKind.u32.bits=32 from rfl,Nat.min_eq_left (by omega)]
  congr 2
 have ho:bits .or .u32 ((x / 2 ^ m:Nat):Int) ((x*2 ^ (32 - m) % 4294967296:Nat):Int)=(SH.rotr x m:Nat):=by
  rw[u32_or_nat _ _ (Nat.lt_of_le_of_lt (Nat.div_le_self _ _) h) (Nat.mod_lt _ (by decide))];rfl
 rw[Int.toNat_natCast];generalize SH.rotr x m=r at *;generalize x*2 ^ (32 - m) % 4294967296=p at *;generalize x / 2 ^ m=q at *;generalize 32 - m=s at *;clear h h1 h2;go_enter Tryz.func100,Tryz.ntmps100;go_wp2;go_ret;exact⟨rfl,rfl⟩
theorem rk_any (w:World):Calls Tryz.prog 101 #[] w fun e w'=>e=.returned (.slice (some ⟨w.heap.size,0,none⟩) 64 64)∧w.alloc (.cells (vals SH.K) 120)=w':=by
 go_enter Tryz.func101,Tryz.ntmps101;go_wp2;go_ret;exact⟨rfl,rfl⟩
end
section
open Go.RowKit WM
def plc (i:Nat):Nat:=72057594037927936 / 256 ^ i
theorem plc_next (i:Nat):plc i / 256=plc (i+1):=by rw[plc,plc,Nat.div_div_eq_div_mul,Nat.pow_succ]
theorem plc_pos {i:Nat} (h:i<8):0<plc i:=by
 have:∀ j,j<8→0<plc j:=by decide
 exact this i h
theorem plc_le (i:Nat):plc i≤72057594037927936:=Nat.div_le_self _ _
theorem plc_get (n:Nat) {i:Nat} (hi:i<8):(n:Int) / (plc i:Nat) % 256=(SH.be8 n).getD i 0:=by
 have h:i=0∨i=1∨i=2∨i=3∨i=4∨i=5∨i=6∨i=7:=by omega
 rcases h with rfl | rfl | rfl | rfl | rfl | rfl | rfl | rfl<;>simp[SH.be8,plc]
theorem rmsg_any {B:Nat} (A:Option Addr) (r cap:Nat) (zs:List Int) (w:World) (h:Byt w B A zs) (hl:zs.length=r) (hr:r≤100000000) (hnil:A=none→cap=0) (hB:B≤w.heap.size):
  Calls Tryz.prog 98 #[.slice A r cap] w (Gives w (SH.msg zs)):=by
 obtain⟨i0,hi,hz0,hz1,hz2⟩:=info_parts infoByte;have HH:=Yy h;have HL:=Yy hl;have HN:=Yy hnil;have e0:=World.ownsRow_nil w w.heap.size 5 1;have hy0:=h;have HG:=Yy (show SH.gap r=(119 - r % 64) % 64 from rfl);have hgap:SH.gap r≤63:=by rw[HG.out];omega
 have HT:=Yy (show SH.msg zs=zs++[128]++List.replicate (SH.gap r) 0++SH.be8 (8*r) by rw[SH.msg,hl];simp[SH.tail]);clear h hl hnil;have HFin:Hid (∀ v w',Own w w' v (SH.msg zs)→Gives w (SH.msg zs) (.returned v) w'):=Yy (fun _ _ h=>h.gives);generalize SH.gap r=G at *;generalize SH.msg zs=R at *;go_enter Tryz.func98,Tryz.ntmps98;go_wp2_with (first
  | (at_builtin;refine wpList_append_byt (o:=⟨some 8,_,_,_,_,_⟩) _ rfl _ _ 105 rfl w.heap.size 5 i0 Tryz.underlying105 hi hz0 hz1 hz2 _ 0 [] rfl e0 B A r cap zs rfl hy0 HL.out HN.out (by omega) Nl ?_;intro v1 w1 ho1 hg1;have hb1:=(Below.refl w.heap.size w).grown hg1 Nl (fun g hg=>own_base e0 hg);have ho1':=own_below ho1 ((Below.refl w1.heap.size w1).alloc Nl (.cells #[.int .u8 128] 5));have hb1':=hb1.alloc hb1.size (.cells #[.int .u8 128] 5);have hy1:=byt_row w1 5 (0,0) [128] (w1.heap.size+1) (by omega);clear hg1)
  | (at_builtin;refine wpList_append_byt (o:=⟨some 11,_,_,_,_,_⟩) _ rfl _ _ 105 rfl w.heap.size 5 i0 Tryz.underlying105 hi hz0 hz1 hz2 _ (0+r) ([]++zs) rfl ho1' (w1.heap.size+1) (some ⟨w1.heap.size,0,none⟩) 1 1 [128] rfl hy1 rfl (fun e=>by cases e) (by omega) hb1'.size ?_;intro v2 w2 ho2 hg2;have hb2:=hb1'.grown hg2 hb1'.size (fun g hg=>own_base ho1 hg);have HO2:=Yy (own_of ho2 hb2);clear hg2))
 clear ho2 hb2 hy1 hb1' ho1' hb1 ho1 hy0 e0;go_loopw [3] (fun v wr=>∃ k:Nat,k≤G∧Own w wr v (zs++[128]++List.replicate k 0)) (fun v _=>(r+1+G) - lenOfV v)
 case atStart=>exact⟨0,by omega,by have:=HO2.out;simpa using this⟩
 case round=>
  clear HO2;obtain⟨k,hk,A2,m,c,rfl,hm,hown,hbel⟩:=hrel;have hmk:m=r+1+k:=by rw[← hm];simp[HL.out];omega
  have HM:=Yy hm;have hm64:m≤100000100:=by omega
  by_cases hlt:k<G
  ·have ht:((m:Int) % 64 != 56)=true:=by have:=HG.out;simp;omega
   have HMK:=Yy hmk;have ho':=own_below hown ((Below.refl wr.heap.size wr).alloc Nl (.cells #[.int .u8 0] 5));have hb':=hbel.alloc hbel.size (.cells #[.int .u8 0] 5);have hy:=byt_row wr 5 (0,0) [0] (wr.heap.size+1) (by omega)
   clear hmk hm;go_wp2_with (at_builtin;refine wpList_append_byt (o:=⟨some 18,_,_,_,_,_⟩) _ rfl _ _ 105 rfl w.heap.size 5 i0 Tryz.underlying105 hi hz0 hz1 hz2 _ m _ rfl ho' (wr.heap.size+1) (some ⟨wr.heap.size,0,none⟩) 1 1 [0] rfl hy rfl (fun e=>by cases e) (by omega) hb'.size ?_;intro v2 w2 ho2 hg2;have hb2:=hb'.grown hg2 hb'.size (fun g hg=>own_base hown hg);have HO2:=own_of ho2 hb2;clear hg2);exact Tta46
  ·obtain rfl:k=G:=by omega
   have ht:((m:Int) % 64 != 56)=false:=by have:=HG.out;simp;omega
   have HMK:=Yy hmk;have HO:=Yy (show Own w wr (.slice A2 m c) (zs++[128]++List.replicate k 0) from⟨A2,m,c,rfl,hm,hown,hbel⟩);clear hmk hm hown hbel;go_wp2_with fail;go_loopw [3,5,6] (fun v p i wr=>∃ j:Nat,j≤8∧i=.int .i64 (j:Int)∧p=.int .u64 (plc j:Nat)∧Own w wr v (zs++[128]++List.replicate k 0++(SH.be8 (8*r)).take j)) (fun _ _ i _=>8 - (intOf i).toNat)
   case atStart=>exact⟨0,by omega,rfl,rfl,by have:=HO.out;simpa using this⟩
   case round=>
    clear HO;obtain⟨j,hj,rfl,rfl,A3,m3,c3,rfl,hm3,hown,hbel⟩:=hrel;by_cases hlt:j<8
    ·have hv:(((8:Int)*(r:Int)) / (plc j:Nat)).tmod 256=(SH.be8 (8*r)).getD j 0:=by
      have:=plc_get (8*r) hlt;rw[show ((8*r:Nat):Int)=8*(r:Int) by omega]at this;rw[Int.tmod_eq_emod_of_nonneg (Int.ediv_nonneg (by omega) (by omega))];exact this
     have hp0:=plc_pos hlt;have hpl:=plc_le j;have hpx:((plc j:Nat):Int) / 256=(plc (j+1):Nat):=by rw[← plc_next];omega
     have HNX:=Yy (be8_next (8*r) hlt);have hx0:=all_get (be8_bytes (8*r)) j;have hx1:(SH.be8 (8*r)).getD j 0 % 256=(SH.be8 (8*r)).getD j 0:=by omega
     have hm3':m3≤100000200:=by
      rw[← hm3,List.length_append,List.length_take];simp[HL.out];omega
     have HM3:=Yy hm3;have hpne:((plc j:Nat):Int)≠0:=by omega
     obtain⟨p1,hp1⟩:∃ p1,plc (j+1)=p1:=⟨_,rfl⟩;rw[hp1]at hpx;have HP1:=Yy hp1;clear hp1;generalize plc j=p0 at *;generalize (SH.be8 (8*r)).getD j 0=x at *;have ho':=own_below hown ((Below.refl wr.heap.size wr).alloc Nl (.cells #[.int .u8 x] 5));have hb':=hbel.alloc hbel.size (.cells #[.int .u8 x] 5);have hy:=byt_row wr 5 (0,0) [x] (wr.heap.size+1) (by omega)
     clear hm3;go_wp2_with (at_builtin;refine wpList_append_byt (o:=⟨some 34,_,_,_,_,_⟩) _ rfl _ _ 105 rfl w.heap.size 5 i0 Tryz.underlying105 hi hz0 hz1 hz2 _ m3 _ rfl ho' (wr.heap.size+1) (some ⟨wr.heap.size,0,none⟩) 1 1 [x] rfl hy rfl (fun e=>by cases e) (by omega) hb'.size ?_;intro v2 w2 ho2 hg2;have hb2:=hb'.grown hg2 hb'.size (fun g hg=>own_base hown hg);have HO2:=own_of ho2 hb2;clear hg2);go_roundw
     case rel=>
      rw[List.append_assoc,HNX.out]at HO2;exact⟨j+1,by omega,by go_num,by rw[HP1.out],HO2⟩
     case measure=>simp[intOf];omega
    ·obtain rfl:j=8:=by omega
     have HO:=Yy (show Own w wr (.slice A3 m3 c3) R from by
      rw[HT.out];have h8:(SH.be8 (8*r)).take 8=SH.be8 (8*r):=rfl;rw[← h8];exact⟨A3,m3,c3,rfl,hm3,hown,hbel⟩)
     clear hm3 hown hbel;go_wp2;go_ret;exact HFin.out _ _ HO.out
end
section
open Go.RowKit WM
theorem infoWord:(Tryz.prog.info? 120).map (fun i=>(i.zero,i.size,i.bytes))=some (some (.int .u32 0),1,4):=by kernel_rfl
def wv (n:Nat):Value:=.int .u32 (n:Int)
def OwnW (w wr:World) (v:Value) (L:List Nat):Prop:=wr.ownsRow w.heap.size 120 1 v L.length (L.map wv)∧Below w.heap.size w wr
theorem OwnW.open {w wr:World} {v:Value} {L:List Nat} (h:OwnW w wr v L) (h0:0<L.length):∃ g c,v=.slice (some ⟨g,0,none⟩) L.length c∧w.heap.size≤g∧g<wr.heap.size∧L.length≤c∧c≤maxLen∧∀ j,j<L.length→wr.cell? ⟨g,j,none⟩=some (.int .u32 (L.getD j 0:Nat)):=by
 rcases h.1.2 with ⟨_,h1⟩ | ⟨g,cap,cur,hv,hb,hh,hnc,hcm,hsz,htk⟩
 ·omega
 ·have hlt:g<wr.heap.size:=by
   rcases Nat.lt_or_ge g wr.heap.size with h1 | h1
   ·exact h1
   ·rw[Array.getElem?_eq_none h1]at hh;cases hh
  refine⟨g,cap,hv,hb,hlt,hnc,hcm,fun j hj=>?_⟩;rw[cell_of_row wr g j cur _ _ hh];have h2:=congrArg (fun l=>l[j]?) htk;simp only[List.getElem?_take,Nat.mul_one,hj,if_true,Array.getElem?_toList,List.getElem?_map,List.getElem?_eq_getElem hj,Option.map_some]at h2;rw[h2];simp[List.getD,List.getElem?_eq_getElem hj,wv]
theorem step_append_word {w X:World} {ops:Array Oper} {o:Oper} {a:Act} {K:Act→World→Prop} {Q:Exit→Act→World→Prop} {E:Prop} (hgd:o.guard=none) (s x:Operand)
  (ho:o.op=.call { callee:=.builtin .append,args:=#[s,x],argTypes:=#[125,125]})
  (v:Value) (L:List Nat) (n:Nat) (hs:a.eval s=v) (hown:OwnW w X v L) (hL:L.length≤1000) (hx:a.eval x=.slice (some ⟨X.heap.size,0,none⟩) 1 1)
  (h:∀ v' w',OwnW w w' v' (L++[n])→K (a.put o.dst v') w'):
  if Region.wanted o (yielded ops a.tmps)=true then Oper.wp Tryz.prog o a (X.alloc (.cells #[.int .u32 (n:Int)] 120)) K Q else E:=by
 have hw:Region.wanted o (yielded ops a.tmps)=true:=by simp[Region.wanted,hgd]
 rw[if_pos hw];obtain⟨i0,hi,hz0,hz1,hz2⟩:=info_parts infoWord;have hb':=hown.2.alloc hown.2.size (.cells #[.int .u32 (n:Int)] 120);have ho':=own_below hown.1 ((Below.refl X.heap.size X).alloc Nl (.cells #[.int .u32 (n:Int)] 120));refine wp_append_own _ s x 125 ho w.heap.size 120 i0 (.int .u32 0) 1 4 Tryz.underlying125 hi hz0 hz1 hz2 rfl (by omega) v L.length _ hs ho' ⟨X.heap.size,0,none⟩ 1 1 [.int .u32 (n:Int)] hx rfl (one_cell rfl) (by
  intro u hu;rw[List.mem_singleton.1 hu]
  rfl) (by simp only[maxLen];omega) (by omega) hb'.size ?_
 intro v' w' h1 h2 _;refine h v' w' ⟨?_,hb'.grown h2 hb'.size (fun g hg=>own_base hown.1 hg)⟩;rw[List.length_append,List.map_append];exact h1
theorem ownW_nil (w:World):OwnW w w (.slice none 0 0) []:=⟨World.ownsRow_nil _ _ _ _,Below.refl _ _⟩
theorem OwnW.drew1 {w wr:World} {v:Value} {L:List Nat} (h:OwnW w wr v L):OwnW w wr.drew v L:=⟨own_below h.1 (Below.refl _ _).drew,h.2.drew⟩
end
section
open Go.RowKit WM
def RWordsPost (L:List Nat) (w:World) (e:Ending) (w':World):Prop:=∃ v,e=.returned v∧OwnW w w' v L
theorem ixw (g len cap i:Nat) (h:i<len) (w:World):(Instr.indexAt 125 (.slice (some ⟨g,0,none⟩) len cap) (.int .i64 (i:Int))).run Tryz.prog w=.ok (.pointer (some ⟨g,i,none⟩)) w:=by
 have e:Tryz.prog.elem 125=120:=by kernel_rfl
 have sz:∀ w,(sizeOf 120).run Tryz.prog w=.ok 1 w:=fun w=>by
  simp[sizeOf,go_sem]
  rfl
 rw[run_indexAt_slice w 125 _ len cap .i64 i (by rw[e];exact Tryz.underlying125),if_pos (by omega),e,sz];simp[Result.andThen,Addr.add_lit]
theorem z_getD {zs:List Int} (hb:AllBytes zs) (k:Nat):zs.getD k 0=(SH.z zs k:Nat):=by
 unfold SH.z;have:=all_get hb k;omega
theorem rwords_any {B:Nat} (b off cap:Nat) (zs:List Int) (w:World) (hl:zs.length=64) (hb:AllBytes zs) (hbB:b<B) (hB:B≤w.heap.size) (hcell:∀ i,i<64→w.cell? ⟨b,off+i,none⟩=some (.int .u8 (zs.getD i 0))):
  Calls Tryz.prog 99 #[.slice (some ⟨b,off,none⟩) (64:Nat) cap] w (RWordsPost (SH.ws zs 64) w):=by
 have HC:=Yy hcell;have HB:=Yy hb;have HP:Hid (∀ v w',OwnW w w' v (SH.ws zs 64)→RWordsPost (SH.ws zs 64) w (.returned v) w'):=Yy (fun v _ h=>⟨v,rfl,h⟩);have hbw:b<w.heap.size:=by omega
 have O0:=Yy (show OwnW w w (.slice none 0 0) (SH.ws zs 0) from ownW_nil w);clear hcell hb hl;go_enter Tryz.func99,Tryz.ntmps99;go_wp2_with fail;go_loopw [3,4] (fun v i wr=>∃ n:Nat,n≤16∧i=.int .i64 (n:Int)∧OwnW w wr v (SH.ws zs n)) (fun _ i _=>16 - (intOf i).toNat)
 case atStart=>exact⟨0,by omega,rfl,O0.out⟩
 case round=>
  clear O0;obtain⟨n,hn,rfl,ho⟩:=hrel;by_cases hlt:n<16
  ·have HO':=Yy ho.drew1;have hX':=ho.2.drew;have HNX:=Yy (SH.ws_small zs hlt);obtain⟨q0,hq0⟩:∃ q,q=4*n:=⟨_,rfl⟩;obtain⟨q1,hq1⟩:∃ q,q=4*n+1:=⟨_,rfl⟩;obtain⟨q2,hq2⟩:∃ q,q=4*n+2:=⟨_,rfl⟩;obtain⟨q3,hq3⟩:∃ q,q=4*n+3:=⟨_,rfl⟩;have u0:IntKind.i64.wrap (4*(n:Int))=(q0:Int):=by rw[IntWalk.i64_in _ (by omega)];omega
   have u1:IntKind.i64.wrap ((q0:Int)+1)=(q1:Int):=by rw[IntWalk.i64_in _ (by omega)];omega
   have u2:IntKind.i64.wrap ((q0:Int)+2)=(q2:Int):=by rw[IntWalk.i64_in _ (by omega)];omega
   have u3:IntKind.i64.wrap ((q0:Int)+3)=(q3:Int):=by rw[IntWalk.i64_in _ (by omega)];omega
   have c0:=HC.out q0 (by omega);have c1:=HC.out q1 (by omega);have c2:=HC.out q2 (by omega);have c3:=HC.out q3 (by omega);rw[z_getD HB.out]at c0 c1 c2 c3;have l0:=SH.z_lt HB.out q0;have l1:=SH.z_lt HB.out q1;have l2:=SH.z_lt HB.out q2;have l3:=SH.z_lt HB.out q3;have hbe:SH.be4 zs n=16777216*SH.z zs q0+65536*SH.z zs q1+256*SH.z zs q2+SH.z zs q3:=by rw[SH.be4,hq0,hq1,hq2,hq3]
   have x0:=fun w9=>ix_at b off 64 cap q0 (by omega) (q0:Int) rfl w9;have x1:=fun w9=>ix_at b off 64 cap q1 (by omega) (q1:Int) rfl w9;have x2:=fun w9=>ix_at b off 64 cap q2 (by omega) (q2:Int) rfl w9;have x3:=fun w9=>ix_at b off 64 cap q3 (by omega) (q3:Int) rfl w9;generalize SH.z zs q0=z0 at *;generalize SH.z zs q1=z1 at *;generalize SH.z zs q2=z2 at *;generalize SH.z zs q3=z3 at *;have t0:=IntWalk.u32_in (z0:Int) (by omega);have t1:=IntWalk.u32_in (z1:Int) (by omega);have t2:=IntWalk.u32_in (z2:Int) (by omega);have t3:=IntWalk.u32_in (z3:Int) (by omega);obtain⟨y0,hy0⟩:∃ y,y=16777216*z0:=⟨_,rfl⟩;obtain⟨y1,hy1⟩:∃ y,y=65536*z1:=⟨_,rfl⟩;obtain⟨y2,hy2⟩:∃ y,y=256*z2:=⟨_,rfl⟩;obtain⟨s1,hs1⟩:∃ y,y=16777216*z0+65536*z1:=⟨_,rfl⟩;obtain⟨s2,hs2⟩:∃ y,y=16777216*z0+65536*z1+256*z2:=⟨_,rfl⟩;obtain⟨y4,hy4⟩:∃ y,y=16777216*z0+65536*z1+256*z2+z3:=⟨_,rfl⟩;have f0:IntKind.u32.wrap (16777216*(z0:Int))=(y0:Int):=by rw[IntWalk.u32_in _ (by omega)];omega
   have f1:IntKind.u32.wrap (65536*(z1:Int))=(y1:Int):=by rw[IntWalk.u32_in _ (by omega)];omega
   have f2:IntKind.u32.wrap (256*(z2:Int))=(y2:Int):=by rw[IntWalk.u32_in _ (by omega)];omega
   have f3:IntKind.u32.wrap ((y0:Int)+(y1:Int))=(s1:Int):=by rw[IntWalk.u32_in _ (by omega)];omega
   have f4:IntKind.u32.wrap ((s1:Int)+(y2:Int))=(s2:Int):=by rw[IntWalk.u32_in _ (by omega)];omega
   have f5:IntKind.u32.wrap ((s2:Int)+(z3:Int))=(y4:Int):=by rw[IntWalk.u32_in _ (by omega)];omega
   rw[hbe,← hy4]at HNX;clear hbe hy0 hy1 hy2 hs1 hs2 hy4 l0 l1 l2 l3 hq0 hq1 hq2 hq3 ho;go_wp2_with fail;refine wp_region_held_drew (S:=fun w'=>Below w.heap.size w w') (by kernel_rfl) hX' (fun hS=>?_);have HO:=HO';have hX:Below w.heap.size w wr.drew:=hX';clear HO' hX';generalize wr.drew=X at *;refine YHd 0 (some 14) _ rfl hS (fun w9 hSw=>by (try dsimp only at hSw);go_simp;try with_reducible rfl) ?_;refine YHd 1 (some 15) _ rfl hS (fun w9 hSw=>by (try dsimp only at hSw);go_simp;try with_reducible rfl) ?_;refine YHd 2 (some 16) _ rfl hS (fun w9 hSw=>by (try dsimp only at hSw);go_simp;try with_reducible rfl) ?_;refine YHd 3 (some 17) _ rfl hS (fun w9 hSw=>by (try dsimp only at hSw);go_simp;try with_reducible rfl) ?_;refine YHd 4 (some 18) _ rfl hS (fun w9 hSw=>by (try dsimp only at hSw);go_simp;try with_reducible rfl) ?_;refine YHd 5 (some 19) _ rfl hS (fun w9 hSw=>by (try dsimp only at hSw);have c9:=(hSw.cell (p:=⟨b,off+q0,none⟩) hbw).trans c0;go_simp;try with_reducible rfl) ?_;refine YHd 6 (some 20) _ rfl hS (fun w9 hSw=>by (try dsimp only at hSw);go_simp;try with_reducible rfl) ?_;refine YHd 7 (some 21) _ rfl hS (fun w9 hSw=>by (try dsimp only at hSw);go_simp;try with_reducible rfl) ?_;refine YHd 8 (some 22) _ rfl hS (fun w9 hSw=>by (try dsimp only at hSw);go_simp;try with_reducible rfl) ?_;refine YHd 9 (some 23) _ rfl hS (fun w9 hSw=>by (try dsimp only at hSw);go_simp;try with_reducible rfl) ?_
   refine YHd 10 (some 24) _ rfl hS (fun w9 hSw=>by (try dsimp only at hSw);go_simp;try with_reducible rfl) ?_;refine YHd 11 (some 25) _ rfl hS (fun w9 hSw=>by (try dsimp only at hSw);go_simp;try with_reducible rfl) ?_;refine YHd 12 (some 26) _ rfl hS (fun w9 hSw=>by (try dsimp only at hSw);go_simp;try with_reducible rfl) ?_;refine YHd 13 (some 27) _ rfl hS (fun w9 hSw=>by (try dsimp only at hSw);have c9:=(hSw.cell (p:=⟨b,off+q1,none⟩) hbw).trans c1;go_simp;try with_reducible rfl) ?_;refine YHd 14 (some 28) _ rfl hS (fun w9 hSw=>by (try dsimp only at hSw);go_simp;try with_reducible rfl) ?_;refine YHd 15 (some 29) _ rfl hS (fun w9 hSw=>by (try dsimp only at hSw);go_simp;try with_reducible rfl) ?_;refine YHd 16 (some 30) _ rfl hS (fun w9 hSw=>by (try dsimp only at hSw);go_simp;try with_reducible rfl) ?_;refine YHd 17 (some 31) _ rfl hS (fun w9 hSw=>by (try dsimp only at hSw);go_simp;try with_reducible rfl) ?_;refine YHd 18 (some 32) _ rfl hS (fun w9 hSw=>by (try dsimp only at hSw);go_simp;try with_reducible rfl) ?_;refine YHd 19 (some 33) _ rfl hS (fun w9 hSw=>by (try dsimp only at hSw);go_simp;try with_reducible rfl) ?_;refine YHd 20 (some 34) _ rfl hS (fun w9 hSw=>by (try dsimp only at hSw);go_simp;try with_reducible rfl) ?_;refine YHd 21 (some 35) _ rfl hS (fun w9 hSw=>by (try dsimp only at hSw);go_simp;try with_reducible rfl) ?_
   refine YHd 22 (some 36) _ rfl hS (fun w9 hSw=>by (try dsimp only at hSw);have c9:=(hSw.cell (p:=⟨b,off+q2,none⟩) hbw).trans c2;go_simp;try with_reducible rfl) ?_;refine YHd 23 (some 37) _ rfl hS (fun w9 hSw=>by (try dsimp only at hSw);go_simp;try with_reducible rfl) ?_;refine YHd 24 (some 38) _ rfl hS (fun w9 hSw=>by (try dsimp only at hSw);go_simp;try with_reducible rfl) ?_;refine YHd 25 (some 39) _ rfl hS (fun w9 hSw=>by (try dsimp only at hSw);go_simp;try with_reducible rfl) ?_;refine YHd 26 (some 40) _ rfl hS (fun w9 hSw=>by (try dsimp only at hSw);go_simp;try with_reducible rfl) ?_;refine YHd 27 (some 41) _ rfl hS (fun w9 hSw=>by (try dsimp only at hSw);go_simp;try with_reducible rfl) ?_;refine YHd 28 (some 42) _ rfl hS (fun w9 hSw=>by (try dsimp only at hSw);go_simp;try with_reducible rfl) ?_;refine YHd 29 (some 43) _ rfl hS (fun w9 hSw=>by (try dsimp only at hSw);go_simp;try with_reducible rfl) ?_;refine YHd 30 (some 44) _ rfl hS (fun w9 hSw=>by (try dsimp only at hSw);go_simp;try with_reducible rfl) ?_;refine YHd 31 (some 45) _ rfl hS (fun w9 hSw=>by (try dsimp only at hSw);have c9:=(hSw.cell (p:=⟨b,off+q3,none⟩) hbw).trans c3;go_simp;try with_reducible rfl) ?_;refine YHd 32 (some 46) _ rfl hS (fun w9 hSw=>by (try dsimp only at hSw);go_simp;try with_reducible rfl) ?_;refine YHd 33 (some 47) _ rfl hS (fun w9 hSw=>by (try dsimp only at hSw);go_simp;try with_reducible rfl) ?_
   refine wpAnyH_ready (rs:=[34]) (by kernel_rfl) (by simp) (AllReadyH.cons (o:=⟨some 48,_,_,_,_,_⟩) rfl (fun K hK=>?_) AllReadyH.nil);go_simp;refine hK.out _ _ (hX.alloc hX.size _) (fun hS=>?_);clear hK K;refine wpAnyH_ready (rs:=[35]) (by kernel_rfl) (by simp) (AllReadyH.cons (o:=⟨some 49,_,_,_,_,_⟩) rfl (fun K hK=>?_) AllReadyH.nil);refine step_append_word (o:=⟨some 49,_,_,_,_,_⟩) rfl _ _ rfl _ (SH.ws zs n) y4 rfl HO.out (by rw[SH.ws_len];omega) (by rfl) ?_;intro v3 x3 ho3;refine hK.out _ _ ho3.2 (fun hS=>?_);clear hK K;refine YHd 36 (some 3) _ rfl hS (fun w9 hSw=>by (try dsimp only at hSw);go_simp;try with_reducible rfl) ?_;refine wpAnyH_done (by kernel_rfl) ?_ _;go_wp2;go_roundw
   case rel=>exact⟨n+1,by omega,by go_num,by rw[HNX.out];exact ho3⟩
   case measure=>simp[intOf];omega
  ·obtain rfl:n=16:=by omega
   have HO16:=Yy ho;clear ho;go_wp2_with fail;go_loopw [3,5] (fun v i wr=>∃ n:Nat,16≤n∧n≤64∧i=.int .i64 (n:Int)∧OwnW w wr v (SH.ws zs n)) (fun _ i _=>64 - (intOf i).toNat)
   case atStart=>exact⟨16,by omega,by omega,rfl,HO16.out⟩
   case round=>
    clear HO16;obtain⟨n,hn16,hn,rfl,ho⟩:=hrel;by_cases hlt:n<64
    ·have HNX:=Yy (SH.ws_great zs hn16);unfold SH.wnext at HNX;have hlen:=SH.ws_len zs n;obtain⟨g,c,rfl,hg,hgl,hgc,hcm,hcell⟩:=ho.open (by omega);rw[hlen]at ho hgc hcell ⊢;have b2:=(SH.ws_all HB.out n).get (n - 2);have b15:=(SH.ws_all HB.out n).get (n - 15);have c15:=hcell (n - 15) (by omega);have c2:=hcell (n - 2) (by omega);have c16:=hcell (n - 16) (by omega);have c7:=hcell (n - 7) (by omega);have HO':=Yy ho.drew1;have hX':=ho.2.drew;clear hcell ho;generalize (SH.ws zs n).getD (n - 2) 0=x2 at *;generalize (SH.ws zs n).getD (n - 15) 0=x15 at *;generalize (SH.ws zs n).getD (n - 7) 0=x7 at *;generalize (SH.ws zs n).getD (n - 16) 0=x16 at *;have e1:=u32_xor_nat _ _ (SH.rotr_lt 7 b15) (SH.rotr_lt 18 b15);have e2:=u32_xor_nat _ _ (SH.xor_lt (SH.rotr_lt 7 b15) (SH.rotr_lt 18 b15)) (show x15 / 8<4294967296 by omega);have e3:=u32_xor_nat _ _ (SH.rotr_lt 17 b2) (SH.rotr_lt 19 b2);have e4:=u32_xor_nat _ _ (SH.xor_lt (SH.rotr_lt 17 b2) (SH.rotr_lt 19 b2)) (show x2 / 1024<4294967296 by omega);rw[show ((x15 / 8:Nat):Int)=(x15:Int) / 8 by omega]at e2;rw[show ((x2 / 1024:Nat):Int)=(x2:Int) / 1024 by omega]at e4;have t15:=Yy (fun (n:Int) (w:World)=>rturned x15 n w b15);have t2:=Yy (fun (n:Int) (w:World)=>rturned x2 n w b2);have a1:IntKind.u32.wrap ((x16:Int)+(SH.s0 x15:Nat))=(SH.add x16 (SH.s0 x15):Nat):=by rw[IntKind.wrap_u32'];exact u32_sum _ _
     have a2:IntKind.u32.wrap (((SH.add x16 (SH.s0 x15):Nat):Int)+x7)=(SH.add (SH.add x16 (SH.s0 x15)) x7:Nat):=by rw[IntKind.wrap_u32'];exact u32_sum _ _
     have a3:IntKind.u32.wrap (((SH.add (SH.add x16 (SH.s0 x15)) x7:Nat):Int)+(SH.s1 x2:Nat))=(SH.add (SH.add (SH.add x16 (SH.s0 x15)) x7) (SH.s1 x2):Nat):=by rw[IntKind.wrap_u32'];exact u32_sum _ _
     change _=((SH.s0 x15:Nat):Int) at e2
     change _=((SH.s1 x2:Nat):Int) at e4
     generalize SH.add (SH.add (SH.add x16 (SH.s0 x15)) x7) (SH.s1 x2)=v3 at *;generalize SH.add (SH.add x16 (SH.s0 x15)) x7=v2 at *;generalize SH.add x16 (SH.s0 x15)=v1 at *;generalize SH.s0 x15=y0 at *;generalize SH.s1 x2=y1 at *;obtain⟨m16,hm16⟩:∃ m,m=n - 16:=⟨_,rfl⟩;obtain⟨m7,hm7⟩:∃ m,m=n - 7:=⟨_,rfl⟩;have w16:IntKind.i64.wrap ((n:Int) - 16)=(m16:Int):=by rw[IntWalk.i64_in _ (by omega)];omega
     have w7:IntKind.i64.wrap ((n:Int) - 7)=(m7:Int):=by rw[IntWalk.i64_in _ (by omega)];omega
     have k16:wr.drew.cell? ⟨g,m16,none⟩=some (.int .u32 (x16:Int)):=by rw[hm16];exact c16
     have k7:wr.drew.cell? ⟨g,m7,none⟩=some (.int .u32 (x7:Int)):=by rw[hm7];exact c7
     have i16:=fun w9=>ixw g n c m16 (by omega) w9;have i7:=fun w9=>ixw g n c m7 (by omega) w9;have K16:=Yy k16;have K7:=Yy k7;have I16:=Yy i16;have I7:=Yy i7;have W16:=Yy w16;have W7:=Yy w7;have A1:=Yy a1;have A2:=Yy a2;have A3:=Yy a3;have BX:=Yy hX';unfold maxLen at hcm;clear k16 k7 i16 i7 hm16 hm7 c16 c7 w16 w7 a1 a2 a3 b2 b15 hX' hlen;go_wp2_with fail;refine (t15.out _ _ (by decide) (by decide)).mono ?_;rintro e w1 ⟨rfl,rfl⟩;go_wp2_with fail;refine (t15.out _ _ (by decide) (by decide)).mono ?_;rintro e w2 ⟨rfl,rfl⟩;go_wp2_with fail;refine (t2.out _ _ (by decide) (by decide)).mono ?_;rintro e w3 ⟨rfl,rfl⟩;go_wp2_with fail;refine (t2.out _ _ (by decide) (by decide)).mono ?_;rintro e w4 ⟨rfl,rfl⟩;go_wp2_with fail;clear c2 c15 e1 e2 e3 e4;refine wp_region_held_drew (S:=fun w'=>Below w.heap.size w w') (by kernel_rfl) BX.out (fun hS=>?_);have HO:=HO';have hX:Below w.heap.size w _:=BX.out;have k16:=K16.out;have k7:=K7.out;have i16:=I16.out;have i7:=I7.out;have w16:=W16.out;have w7:=W7.out;have a1:=A1.out;have a2:=A2.out;have a3:=A3.out;clear HO' BX K16 K7 I16 I7 W16 W7 A1 A2 A3;generalize World.drew _=X at *;refine YHd 0 (some 80) _ rfl hS (fun w9 hSw=>by (try dsimp only at hSw);go_simp;try with_reducible rfl) ?_;refine YHd 1 (some 81) _ rfl hS (fun w9 hSw=>by (try dsimp only at hSw);go_simp;try with_reducible rfl) ?_;refine YHd 2 (some 82) _ rfl hS (fun w9 hSw=>by (try dsimp only at hSw);go_simp;try with_reducible rfl) ?_
     refine YHd 3 (some 83) _ rfl hS (fun w9 hSw=>by (try dsimp only at hSw);go_simp;try with_reducible rfl) ?_;refine YHd 4 (some 84) _ rfl hS (fun w9 hSw=>by (try dsimp only at hSw);go_simp;try with_reducible rfl) ?_;refine YHd 6 (some 86) _ rfl hS (fun w9 hSw=>by (try dsimp only at hSw);go_simp;try with_reducible rfl) ?_;refine YHd 8 (some 88) _ rfl hS (fun w9 hSw=>by (try dsimp only at hSw);go_simp;try with_reducible rfl) ?_;refine YHd 9 (some 89) _ rfl hS (fun w9 hSw=>by (try dsimp only at hSw);go_simp;try with_reducible rfl) ?_;refine YHd 10 (some 90) _ rfl hS (fun w9 hSw=>by (try dsimp only at hSw);go_simp;try with_reducible rfl) ?_;refine YHd 11 (some 91) _ rfl hS (fun w9 hSw=>by (try dsimp only at hSw);go_simp;try with_reducible rfl) ?_;refine YHd 14 (some 94) _ rfl hS (fun w9 hSw=>by (try dsimp only at hSw);go_simp;try with_reducible rfl) ?_;refine wpAnyH_ready (rs:=[5,12]) (by kernel_rfl) (by simp) (AllReadyH.cons (o:=⟨some 85,_,_,_,_,_⟩) rfl (fun K hK=>?_) (AllReadyH.cons (o:=⟨some 92,_,_,_,_,_⟩) rfl (fun K hK=>?_) AllReadyH.nil));go_simp;refine hK.out _ _ hX (fun _=>?_);clear hK K
     try simp only[Act.put,Z2,Z3,Z4]
     refine YHd 7 (some 87) _ rfl hS (fun w9 hSw=>by (try dsimp only at hSw);go_simp;try with_reducible rfl) ?_;refine wpAnyH_ready (rs:=[12]) (by kernel_rfl) (by simp) (AllReadyH.cons (o:=⟨some 92,_,_,_,_,_⟩) rfl (fun K hK=>?_) AllReadyH.nil);go_simp;refine hK.out _ _ hX (fun _=>?_);clear hK K
     try simp only[Act.put,Z2,Z3,Z4]
     refine YHd 13 (some 93) _ rfl hS (fun w9 hSw=>by (try dsimp only at hSw);go_simp;try with_reducible rfl) ?_;refine YHd 15 (some 95) _ rfl hS (fun w9 hSw=>by (try dsimp only at hSw);go_simp;try with_reducible rfl) ?_;refine wpAnyH_ready (rs:=[16]) (by kernel_rfl) (by simp) (AllReadyH.cons (o:=⟨some 96,_,_,_,_,_⟩) rfl (fun K hK=>?_) AllReadyH.nil);go_simp;refine hK.out _ _ (hX.alloc hX.size _) (fun hS=>?_);clear hK K;refine wpAnyH_ready (rs:=[17]) (by kernel_rfl) (by simp) (AllReadyH.cons (o:=⟨some 97,_,_,_,_,_⟩) rfl (fun K hK=>?_) AllReadyH.nil);refine step_append_word (o:=⟨some 97,_,_,_,_,_⟩) rfl _ _ rfl _ (SH.ws zs n) v3 rfl HO.out (by rw[SH.ws_len];omega) (by rfl) ?_;intro v3 x3 ho3;refine hK.out _ _ ho3.2 (fun hS=>?_);clear hK K;refine YHd 18 (some 3) _ rfl hS (fun w9 hSw=>by (try dsimp only at hSw);go_simp;try with_reducible rfl) ?_;refine wpAnyH_done (by kernel_rfl) ?_ _;rotate_left;go_simp;refine hK.out _ _ hX (fun _=>?_);clear hK K
     try simp only[Act.put,Z2,Z3,Z4]
     refine wpAnyH_ready (rs:=[5]) (by kernel_rfl) (by simp) (AllReadyH.cons (o:=⟨some 85,_,_,_,_,_⟩) rfl (fun K hK=>?_) AllReadyH.nil);go_simp;refine hK.out _ _ hX (fun _=>?_);clear hK K
     try simp only[Act.put,Z2,Z3,Z4]
     refine YHd 7 (some 87) _ rfl hS (fun w9 hSw=>by (try dsimp only at hSw);go_simp;try with_reducible rfl) ?_;refine YHd 13 (some 93) _ rfl hS (fun w9 hSw=>by (try dsimp only at hSw);go_simp;try with_reducible rfl) ?_;refine YHd 15 (some 95) _ rfl hS (fun w9 hSw=>by (try dsimp only at hSw);go_simp;try with_reducible rfl) ?_;refine wpAnyH_ready (rs:=[16]) (by kernel_rfl) (by simp) (AllReadyH.cons (o:=⟨some 96,_,_,_,_,_⟩) rfl (fun K hK=>?_) AllReadyH.nil);go_simp;refine hK.out _ _ (hX.alloc hX.size _) (fun hS=>?_);clear hK K;refine wpAnyH_ready (rs:=[17]) (by kernel_rfl) (by simp) (AllReadyH.cons (o:=⟨some 97,_,_,_,_,_⟩) rfl (fun K hK=>?_) AllReadyH.nil);refine step_append_word (o:=⟨some 97,_,_,_,_,_⟩) rfl _ _ rfl _ (SH.ws zs n) v3 rfl HO.out (by rw[SH.ws_len];omega) (by rfl) ?_;intro v3 x3 ho3;refine hK.out _ _ ho3.2 (fun hS=>?_);clear hK K;refine YHd 18 (some 3) _ rfl hS (fun w9 hSw=>by (try dsimp only at hSw);go_simp;try with_reducible rfl) ?_;refine wpAnyH_done (by kernel_rfl) ?_ _
     all_goals (
      go_wp2;go_roundw
      case rel=>((repeat apply Exists.intro);exact⟨⟨n+1,by omega,by omega,by go_num,by rw[HNX.out];exact ho3⟩,rfl⟩)
      case measure=>simp[intOf];omega)
    ·obtain rfl:n=64:=by omega
     have HO64:=Yy ho;clear ho;go_wp2;go_ret;exact HP.out _ _ HO64.out
end
section
open Go.RowKit WM
theorem size_at_least {zs:List Int}:64≤(SH.msg zs).length:=by
 have h1:=SH.msg_len zs;have h2:0<(SH.msg zs).length:=by rw[SH.msg,List.length_append,SH.tail_len];omega
 omega
theorem ixd (g len cap i:Nat) (h:i<len) (w:World):(Instr.indexAt 125 (.slice (some ⟨g,0,none⟩) len cap) (.int .i64 (i:Int))).run Tryz.prog w=.ok (.pointer (some ⟨g,i,none⟩)) w:=ixw g len cap i h w
def InSum (w:World) (b4 off4:Nat) (M:List Int) (wr:World):Prop:=
 BRow wr w.heap.size 26 (List.replicate 32 0)∧(b4<wr.heap.size∧∀ i,i<M.length→wr.cell? ⟨b4,off4+i,none⟩=some (.int .u8 (M.getD i 0)))∧Below w.heap.size w wr
theorem InSum.below {w:World} {b4 off4:Nat} {M:List Int} {X X':World} (h:InSum w b4 off4 M X) (hb:Below X.heap.size X X'):InSum w b4 off4 M X':=
 ⟨h.1.below hb h.1.lt,⟨Nat.lt_of_lt_of_le h.2.1.1 hb.size,fun i hi=>(hb.cell (by simp only;exact h.2.1.1)).trans (h.2.1.2 i hi)⟩,h.2.2.trans (hb.mono h.2.2.size)⟩
theorem InSum.set {w:World} {b4 off4:Nat} {M:List Int} {X:World} (h:InSum w b4 off4 M X) {g:Nat} (hg:w.heap.size<g) (hg4:b4≠g) (j:Nat) (v:Value):InSum w b4 off4 M (X.setCell ⟨g,j,none⟩ v):=
 ⟨h.1.other (by simp only;omega) v,⟨by rw[World.size_setCell];exact h.2.1.1,fun i hi=>(World.cell?_setCell_far X ⟨g,j,none⟩ ⟨b4,off4+i,none⟩ v (fun e=>hg4 e.symm)).trans (h.2.1.2 i hi)⟩,h.2.2.setCell (by simp only;omega) v⟩
theorem rsum_dig {B:Nat} (A:Option Addr) (len cap:Nat) (zs:List Int) (w:World) (h:Byt w B A zs) (hl:zs.length=len) (hn:len≤100000000) (hnil:A=none→cap=0) (hb:AllBytes zs) (hB:B≤w.heap.size):
  Calls Tryz.prog 78 #[.slice A len cap] w (DSumPost zs w):=by
 have hz:=zeroD;have HM:=Yy (fun (X:World) (hX:Below w.heap.size w X)=>rmsg_any A len cap zs X (h.below (hX.mono hB)) hl hn hnil (Nat.le_trans hB hX.size));have hMl:=SH.msg_len zs;have hMg:64≤(SH.msg zs).length:=size_at_least;have hMb:AllBytes (SH.msg zs):=all_append hb (tail_bytes _ _);have hMle:(SH.msg zs).length≤100000200:=by rw[SH.msg,List.length_append,SH.tail_len,hl];unfold SH.gap;omega
 have HE:=Yy (show SH.sum zs=SH.dig (SH.blocks SH.H0 (SH.msg zs) ((SH.msg zs).length / 64)) from rfl);have HP:Hid (∀ e w',e=.returned (.agg (bvals (SH.sum zs)))→Below w.heap.size w w'→DSumPost zs w e w'):=Yy (fun _ _ h1 h2=>⟨h1,h2⟩);have hI:=Yy (show (Tryz.prog.info? 26).map (·.size)=some (bvals (SH.sum zs)).size by rw[sizeD,bvals_size,SH.sum_len]);obtain⟨i0,hi,hz0,hz1,hz2⟩:=info_parts infoWord;clear h hl hnil hb;generalize SH.msg zs=M at *;have r2:=BRow.new w 26 (List.replicate 32 0);have r3:=Row.new (w.alloc (.cells (bvals (List.replicate 32 0)) 26)) 120 SH.H0.list;rw[World.size_alloc]at r3;have r2':=r2.old (.cells (vals SH.H0.list) 120);have bb:Below w.heap.size w ((w.alloc (.cells (bvals (List.replicate 32 0)) 26)).alloc (.cells (vals SH.H0.list) 120)):=((Below.refl _ _).alloc Nl _).alloc (by simp) _;have HR2:=Yy r2';have HR3:=Yy r3;have HBB:=Yy bb;have HMB:=Yy hMb;have HML:=Yy hMl;clear r2 r2' r3 bb hMb hMl;generalize hZ32:bvals (List.replicate 32 0)=Z32 at *;go_enter Tryz.func78,Tryz.ntmps78;go_wp2_with fail;refine (HM.out _ HBB.out).mono ?_;rintro e x4 ⟨A4,n4,c4,rfl,hn4,hnc4,hcm4,hown4,hb4⟩;have hsz4:((w.alloc (.cells Z32 26)).alloc (.cells (vals SH.H0.list) 120)).heap.size=w.heap.size+2:=by simp
 have hr4:=HR3.out.below hb4 (by rw[hsz4];omega);have hin4:∃ b4 off4,A4=some ⟨b4,off4,none⟩∧w.heap.size+2≤b4∧InSum w b4 off4 M x4:=by
  obtain⟨b4,off4,hA,hlt,hc⟩:=Byt.own (zs:=M) hown4 (fun e=>by rw[e]at hMg;simp at hMg);refine⟨b4,off4,hA,?_,HR2.out.below hb4 (by rw[hsz4];omega),⟨hlt,hc⟩,HBB.out.trans (hb4.mono HBB.out.size)⟩;have:=own_base hown4 (g:=b4) (by rw[hA];simp[Value.ownBlock]);rw[hsz4]at this;exact this
 obtain⟨b4,off4,rfl,hb4g,hin⟩:=hin4;have HIN:=Yy hin;have HR:=Yy hr4;have hg4:b4≠w.heap.size+1:=by omega
 unfold maxLen at hcm4;clear hin hr4 hown4 hb4 hsz4 hb4g HM HR2 HR3 HBB;go_wp2_with fail;go_loopw [5] (fun i wr=>∃ n m:Nat,m=64*n∧m≤n4∧i=.int .i64 (m:Int)∧Row wr (w.heap.size+1) 120 (SH.blocks SH.H0 M n).list∧InSum w b4 off4 M wr) (fun i _=>n4 - (intOf i).toNat)
 case atStart=>exact⟨0,0,rfl,by omega,rfl,HR.out,HIN.out⟩
 case round=>
  clear HIN HR;obtain⟨n,m,hm,hmle,rfl,hrS,hin⟩:=hrel;by_cases hlt:m<n4
  ·have hm64:m+64≤n4:=by have:=HML.out;rw[hn4]at this;omega
   have hsl:=fun w9=>sl_lh b4 off4 n4 c4 m (m+64) (by omega) (by omega) (by omega) (m:Int) ((m:Int)+64) rfl (by omega) w9;rw[Nat.add_sub_cancel_left]at hsl;have hok:=SH.blocks_ok M SH.H0_ok n;have HNB:=Yy (show SH.blocks SH.H0 M (n+1)=SH.blk (SH.blocks SH.H0 M n) ((M.drop m).take 64) by rw[SH.blocks,hm]);unfold SH.blk at HNB;have hz64:((M.drop m).take 64).length=64:=by rw[List.length_take,List.length_drop,hn4];omega
   have CWD:=Yy (rwords_any b4 (off4+m) (c4 - m) ((M.drop m).take 64) wr hz64 (all_take (all_drop HMB.out m) 64) hin.2.1.1 Nl (fun i hi=>by
    have:=hin.2.1.2 (m+i) (by rw[hn4];omega);rw[← Nat.add_assoc]at this;rw[this];simp[List.getD,hi]))
   have Hm:=Yy hm;have HrS:=Yy hrS;have Hin:=Yy hin;have HOK:=Yy hok;have hTl:=SH.ws_len ((M.drop m).take 64) 64;clear hm hrS hin hok hz64;generalize SH.blocks SH.H0 M n=s0 at *;generalize SH.ws ((M.drop m).take 64) 64=T at *;go_wp2_with fail;refine CWD.out.mono ?_;rintro e x5 ⟨v6,rfl,how⟩;obtain⟨gw,cw,rfl,hgw,hgwl,hgc,hcmw,hcw⟩:=how.open (by omega);rw[hTl]at hcw hgc ⊢;have hin5:=Hin.out.below how.2;have hrS5:=HrS.out.below how.2 HrS.out.lt;have nil5:=World.ownsRow_nil x5 x5.heap.size 120 1;have srcS:∀ j u,(s0.list.map wv)[j]?=some u→x5.cell? ((⟨w.heap.size+1,0,none⟩:Addr).add j)=some u:=fun j u hj=>by
    rw[List.getElem?_map,Option.map_eq_some_iff]at hj;obtain⟨y,hy,rfl⟩:=hj;have hjl:=(List.getElem?_eq_some_iff.1 hy).1;rw[Addr.add_lit,Nat.zero_add,hrS5.cell hjl];simp[List.getD,hy,wv]
   have HIN5:=Yy hin5;have HRS5:=Yy hrS5;have HCW:=Yy hcw;unfold maxLen at hcmw;clear hin5 hrS5 hcw how Hin HrS CWD;go_wp2_with (at_builtin;refine wpList_append_own (o:=⟨some 34,_,_,_,_,_⟩) _ rfl _ _ 125 rfl x5.heap.size 120 i0 (.int .u32 0) 1 4 Tryz.underlying125 hi hz0 hz1 hz2 rfl (by omega) _ 0 [] rfl nil5 ⟨w.heap.size+1,0,none⟩ 8 8 (s0.list.map wv) rfl (by rw[List.length_map,list_len]) srcS (by intro u hu;obtain⟨y,_,rfl⟩:=List.mem_map.1 hu;rfl) (by simp only[maxLen];omega) (by omega) Nl ?_;intro v7 x6 ho7 hg7 _);have hb6:Below x5.heap.size x5 x6:=(Below.refl _ _).grown hg7 Nl (fun g hg=>by cases hg);have ho7':OwnW x5 x6 v7 s0.list:=⟨by rw[list_len];simpa using ho7,hb6⟩;obtain⟨gs0,cs0,rfl,hgs0b,hgs0l,hgs0c,hcm0,hcs0⟩:=ho7'.open (by rw[list_len];omega);rw[list_len]at hcs0 hgs0c ⊢;have HGS0:Hid (w.heap.size+1<gs0):=Yy (by have:=HRS5.out.lt;omega);have HIN6:=Yy (HIN5.out.below hb6);have HRS6:=Yy (HRS5.out.below hb6 HRS5.out.lt);have HCW6:=Yy (fun (j:Nat) (hj:j<64)=>(hb6.cell (p:=⟨gw,j,none⟩) hgwl).trans (HCW.out j hj));have HGW6:=Yy (Nat.lt_of_lt_of_le hgwl hb6.size);have HCS0:=Yy hcs0;unfold maxLen at hcm0;clear ho7 hg7 ho7' hcs0 HIN5 HRS5 HCW srcS nil5 hb6 hgw;generalize x6=X6 at *;go_wp2_with fail
   go_loopw [7,8] (fun v i wr=>∃ (k gs cs:Nat),k≤64∧i=.int .i64 (k:Int)∧v=.slice (some ⟨gs,0,none⟩) 8 cs∧8≤cs∧cs≤9223372036854775807∧w.heap.size+1<gs∧gs<wr.heap.size∧(∀ j,j<8→wr.cell? ⟨gs,j,none⟩=some (.int .u32 ((SH.rnds s0 T k).list.getD j 0:Nat)))∧Below X6.heap.size X6 wr) (fun _ i _=>64 - (intOf i).toNat)
   case atStart=>exact⟨0,gs0,cs0,by omega,rfl,rfl,hgs0c,by omega,HGS0.out,hgs0l,HCS0.out,Below.refl _ _⟩
   case round=>
    obtain⟨k,gs,cs,hk,rfl,rfl,hcs8,hcsm,hgsb,hgsl,hcs,hbel⟩:=hrel;by_cases hkl:k<64
    ·have hrok:=SH.rnds_ok T HOK.out k;obtain⟨Kk,hKk⟩:∃ Kk,SH.K.getD k 0=Kk:=⟨_,rfl⟩;obtain⟨p1,S1,q1,ef,ne,eg,c,q2,q3,t,p2,S0,ab,ac,bc,o1,mj,u,na,nd,⟨e1,e2,e3,e4,e5,e6,e7,e8,e9,e10⟩,⟨f1,f2,f3,f4,f5,f6,f7,f8⟩,⟨f9,f10⟩,hnext⟩:=round_vals (SH.rnds s0 T k) hrok Kk (T.getD k 0);have HNR:=Yy (show SH.rnds s0 T (k+1)=_ by rw[SH.rnds,hKk,hnext]);have tE:=Yy (fun (n:Int) (w:World)=>rturned (SH.rnds s0 T k).e n w hrok.2.2.2.2.1);have tA:=Yy (fun (n:Int) (w:World)=>rturned (SH.rnds s0 T k).a n w hrok.1);have ene:ne=4294967295 - (SH.rnds s0 T k).e:=by
      have:=u32_not hrok.2.2.2.2.1;rw[e5]at this;omega
     have hel:=hrok.2.2.2.2.1;have c0:wr.cell? ⟨gs,0,none⟩=some (.int .u32 ((SH.rnds s0 T k).a:Int)):=hcs 0 (by omega);have c1:wr.cell? ⟨gs,1,none⟩=some (.int .u32 ((SH.rnds s0 T k).b:Int)):=hcs 1 (by omega);have c2:wr.cell? ⟨gs,2,none⟩=some (.int .u32 ((SH.rnds s0 T k).c:Int)):=hcs 2 (by omega);have c3:wr.cell? ⟨gs,3,none⟩=some (.int .u32 ((SH.rnds s0 T k).d:Int)):=hcs 3 (by omega);have c4':wr.cell? ⟨gs,4,none⟩=some (.int .u32 ((SH.rnds s0 T k).e:Int)):=hcs 4 (by omega);have c5:wr.cell? ⟨gs,5,none⟩=some (.int .u32 ((SH.rnds s0 T k).f:Int)):=hcs 5 (by omega);have c6:wr.cell? ⟨gs,6,none⟩=some (.int .u32 ((SH.rnds s0 T k).g:Int)):=hcs 6 (by omega);have c7:wr.cell? ⟨gs,7,none⟩=some (.int .u32 ((SH.rnds s0 T k).h:Int)):=hcs 7 (by omega);have cw':wr.cell? ⟨gw,k,none⟩=some (.int .u32 (T.getD k 0:Nat)):=(hbel.cell (p:=⟨gw,k,none⟩) HGW6.out).trans (HCW6.out k hkl);have HKK:=Yy hKk;clear hcs hrok hnext hKk;generalize T.getD k 0=Wk at *;generalize (SH.rnds s0 T k).a=sa at *;generalize (SH.rnds s0 T k).b=sb at *;generalize (SH.rnds s0 T k).c=sc at *;generalize (SH.rnds s0 T k).d=sd at *;generalize (SH.rnds s0 T k).e=se at *;generalize (SH.rnds s0 T k).f=sf at *;generalize (SH.rnds s0 T k).g=sg at *;generalize (SH.rnds s0 T k).h=sh at *;have E3:IntKind.u32.wrap ((sh:Int)+(S1:Int))=(q1:Int):=by rw[IntKind.wrap_u32'];exact e3
     have E5:IntKind.u32.wrap ((4294967295:Int) - (se:Int))=(ne:Int):=by rw[IntWalk.u32_in _ (by omega)];omega
     have E8:IntKind.u32.wrap ((q1:Int)+(c:Int))=(q2:Int):=by rw[IntKind.wrap_u32'];exact e8
     have E9:IntKind.u32.wrap ((q2:Int)+(Kk:Int))=(q3:Int):=by rw[IntKind.wrap_u32'];exact e9
     have E10:IntKind.u32.wrap ((q3:Int)+(Wk:Int))=(t:Int):=by rw[IntKind.wrap_u32'];exact e10
     have F9:IntKind.u32.wrap ((t:Int)+(u:Int))=(na:Int):=by rw[IntKind.wrap_u32'];exact f9
     have F10:IntKind.u32.wrap ((sd:Int)+(t:Int))=(nd:Int):=by rw[IntKind.wrap_u32'];exact f10
     have x5i:=fun w9=>ixd gs 8 cs 5 (by omega) w9;have x6i:=fun w9=>ixd gs 8 cs 6 (by omega) w9;have x7i:=fun w9=>ixd gs 8 cs 7 (by omega) w9;have xwi:=fun w9=>ixd gw 64 cw k (by omega) w9;have x7:=Yy (True.intro);have X7:=Yy x7;have HLT:=Yy hkl;have HGS:=Yy hgsl;have HGW:=Yy (Nat.lt_of_lt_of_le HGW6.out hbel.size);have HBel:=Yy hbel;have C5:=Yy c5;have C6:=Yy c6;have C7:=Yy c7;have CW:=Yy cw';have HC1:=Yy c1;have HC2:=Yy c2;have HC3:=Yy c3;clear hbel hgsl c5 c6 c7 cw' c1 c2 c3 ene e3 e5 e8 e9 e10 f9 f10;go_wp2_with fail;clear c0 c4';refine wp_region_held_drew (S:=fun w'=>Below wr.drew.heap.size wr.drew w') (by kernel_rfl) (Below.refl _ _) (fun hS=>?_);have x7:=X7.out;have hlt7:gs<wr.drew.heap.size:=HGS.out;have hltw:gw<wr.drew.heap.size:=HGW.out;have d7:wr.drew.cell? ⟨gs,7,none⟩=some (.int .u32 (sh:Int)):=C7.out;have d5:wr.drew.cell? ⟨gs,5,none⟩=some (.int .u32 (sf:Int)):=C5.out;have d6:wr.drew.cell? ⟨gs,6,none⟩=some (.int .u32 (sg:Int)):=C6.out;have dw:wr.drew.cell? ⟨gw,k,none⟩=some (.int .u32 (Wk:Int)):=CW.out;have D1:Hid (wr.drew.cell? ⟨gs,1,none⟩=some (.int .u32 (sb:Int))):=Yy HC1.out;have D2:Hid (wr.drew.cell? ⟨gs,2,none⟩=some (.int .u32 (sc:Int))):=Yy HC2.out;have D3:Hid (wr.drew.cell? ⟨gs,3,none⟩=some (.int .u32 (sd:Int))):=Yy HC3.out;have HD:=Yy (show Below X6.heap.size X6 wr.drew from HBel.out.drew);generalize wr.drew=X at *;refine YHd 0 (some 45) _ rfl hS (fun w9 hSw=>by (try dsimp only at hSw);go_simp;try with_reducible rfl) ?_
     refine YHd 1 (some 46) _ rfl hS (fun w9 hSw=>by (try dsimp only at hSw);go_simp;try with_reducible rfl) ?_;refine YHd 2 (some 47) _ rfl hS (fun w9 hSw=>by (try dsimp only at hSw);have c9:=(hSw.cell (p:=⟨gs,7,none⟩) hlt7).trans d7;go_simp;try with_reducible rfl) ?_;refine YHd 3 (some 48) _ rfl hS (fun w9 hSw=>by (try dsimp only at hSw);go_simp;try with_reducible rfl) ?_;refine YHd 5 (some 50) _ rfl hS (fun w9 hSw=>by (try dsimp only at hSw);go_simp;try with_reducible rfl) ?_;refine YHd 8 (some 53) _ rfl hS (fun w9 hSw=>by (try dsimp only at hSw);go_simp;try with_reducible rfl) ?_;refine YHd 12 (some 57) _ rfl hS (fun w9 hSw=>by (try dsimp only at hSw);go_simp;try with_reducible rfl) ?_;refine YHd 13 (some 58) _ rfl hS (fun w9 hSw=>by (try dsimp only at hSw);go_simp;try with_reducible rfl) ?_;refine YHd 14 (some 59) _ rfl hS (fun w9 hSw=>by (try dsimp only at hSw);go_simp;try with_reducible rfl) ?_;refine YHd 15 (some 60) _ rfl hS (fun w9 hSw=>by (try dsimp only at hSw);have c9:=(hSw.cell (p:=⟨gs,5,none⟩) hlt7).trans d5;go_simp;try with_reducible rfl) ?_;refine YHd 16 (some 61) _ rfl hS (fun w9 hSw=>by (try dsimp only at hSw);go_simp;try with_reducible rfl) ?_;refine YHd 17 (some 62) _ rfl hS (fun w9 hSw=>by (try dsimp only at hSw);go_simp;try with_reducible rfl) ?_;refine YHd 18 (some 63) _ rfl hS (fun w9 hSw=>by (try dsimp only at hSw);go_simp;try with_reducible rfl) ?_
     refine YHd 19 (some 64) _ rfl hS (fun w9 hSw=>by (try dsimp only at hSw);go_simp;try with_reducible rfl) ?_;refine YHd 20 (some 65) _ rfl hS (fun w9 hSw=>by (try dsimp only at hSw);go_simp;try with_reducible rfl) ?_;refine YHd 21 (some 66) _ rfl hS (fun w9 hSw=>by (try dsimp only at hSw);have c9:=(hSw.cell (p:=⟨gs,6,none⟩) hlt7).trans d6;go_simp;try with_reducible rfl) ?_;refine YHd 22 (some 67) _ rfl hS (fun w9 hSw=>by (try dsimp only at hSw);go_simp;try with_reducible rfl) ?_;refine YHd 23 (some 68) _ rfl hS (fun w9 hSw=>by (try dsimp only at hSw);go_simp;try with_reducible rfl) ?_;refine YHd 26 (some 71) _ rfl hS (fun w9 hSw=>by (try dsimp only at hSw);go_simp;try with_reducible rfl) ?_;refine YHd 30 (some 75) _ rfl hS (fun w9 hSw=>by (try dsimp only at hSw);go_simp;try with_reducible rfl) ?_;refine YHd 31 (some 76) _ rfl hS (fun w9 hSw=>by (try dsimp only at hSw);go_simp;try with_reducible rfl) ?_;refine YHd 32 (some 77) _ rfl hS (fun w9 hSw=>by (try dsimp only at hSw);go_simp;try with_reducible rfl) ?_;refine YHd 33 (some 78) _ rfl hS (fun w9 hSw=>by (try dsimp only at hSw);have c9:=(hSw.cell (p:=⟨gw,k,none⟩) hltw).trans dw;go_simp;try with_reducible rfl) ?_;refine wpAnyH_ready (rs:=[4]) (by kernel_rfl) (by simp) (AllReadyH.cons (o:=⟨some 49,_,_,_,_,_⟩) rfl (fun K hK=>?_) AllReadyH.nil);go_simp;refine (tE.out _ _ (by decide) (by decide)).mono ?_;rintro e y49 ⟨rfl,hy9⟩;rw[hy9];clear hy9;refine hK.out _ _ hS (fun _=>?_);clear hK K
     refine wpAnyH_ready (rs:=[6]) (by kernel_rfl) (by simp) (AllReadyH.cons (o:=⟨some 51,_,_,_,_,_⟩) rfl (fun K hK=>?_) AllReadyH.nil);go_simp;refine (tE.out _ _ (by decide) (by decide)).mono ?_;rintro e y51 ⟨rfl,hy9⟩;rw[hy9];clear hy9;refine hK.out _ _ hS (fun _=>?_);clear hK K;refine YHd 7 (some 52) _ rfl hS (fun w9 hSw=>by (try dsimp only at hSw);go_simp;try with_reducible rfl) ?_;refine wpAnyH_ready (rs:=[9]) (by kernel_rfl) (by simp) (AllReadyH.cons (o:=⟨some 54,_,_,_,_,_⟩) rfl (fun K hK=>?_) AllReadyH.nil);go_simp;refine (tE.out _ _ (by decide) (by decide)).mono ?_;rintro e y54 ⟨rfl,hy9⟩;rw[hy9];clear hy9;refine hK.out _ _ hS (fun _=>?_);clear hK K;refine YHd 10 (some 55) _ rfl hS (fun w9 hSw=>by (try dsimp only at hSw);go_simp;try with_reducible rfl) ?_;refine YHd 11 (some 56) _ rfl hS (fun w9 hSw=>by (try dsimp only at hSw);go_simp;try with_reducible rfl) ?_;refine YHd 24 (some 69) _ rfl hS (fun w9 hSw=>by (try dsimp only at hSw);go_simp;try with_reducible rfl) ?_;refine wpAnyH_ready (rs:=[25]) (by kernel_rfl) (by simp) (AllReadyH.cons (o:=⟨some 70,_,_,_,_,_⟩) rfl (fun K hK=>?_) AllReadyH.nil);go_simp;refine (rk_any _).mono ?_;rintro e xm ⟨rfl,hxm⟩;have hbm:Below X.heap.size X xm:=by rw[← hxm];exact (Below.refl _ _).alloc Nl _
     have dk:xm.cell? ⟨X.heap.size,k,none⟩=some (.int .u32 (Kk:Int)):=by rw[← hxm];exact ((Row.new X 120 SH.K).cell (by rw[SH.K_len];exact HLT.out)).trans (by rw[HKK.out])
     have hltk:X.heap.size<xm.heap.size:=by rw[← hxm,World.size_alloc];omega
     refine hK.out _ _ hbm (fun _=>?_);clear hK K hxm hS;refine wpAnyH_sub (S':=fun w'=>Below xm.heap.size xm w') (fun _ h=>hbm.trans (h.mono hbm.size)) ?_;have hS:=Below.refl xm.heap.size xm;refine YHd 27 (some 72) _ rfl hS (fun w9 hSw=>by (try dsimp only at hSw);go_simp;try with_reducible rfl) ?_;refine YHd 28 (some 73) _ rfl hS (fun w9 hSw=>by (try dsimp only at hSw);have c9:=(hSw.cell (p:=⟨X.heap.size,k,none⟩) hltk).trans dk;go_simp;try with_reducible rfl) ?_;refine YHd 29 (some 74) _ rfl hS (fun w9 hSw=>by (try dsimp only at hSw);go_simp;try with_reducible rfl) ?_;refine YHd 34 (some 79) _ rfl hS (fun w9 hSw=>by (try dsimp only at hSw);go_simp;try with_reducible rfl) ?_;refine YHd 35 (some 11) _ rfl hS (fun w9 hSw=>by (try dsimp only at hSw);go_simp;try with_reducible rfl) ?_;refine wpAnyH_done (by kernel_rfl) ?_ _;have HD2:Below X6.heap.size X6 xm:=HD.out.trans (hbm.mono HD.out.size);have g1:xm.cell? ⟨gs,1,none⟩=some (.int .u32 (sb:Int)):=(hbm.cell (p:=⟨gs,1,none⟩) hlt7).trans D1.out;have g2:xm.cell? ⟨gs,2,none⟩=some (.int .u32 (sc:Int)):=(hbm.cell (p:=⟨gs,2,none⟩) hlt7).trans D2.out;have g3:xm.cell? ⟨gs,3,none⟩=some (.int .u32 (sd:Int)):=(hbm.cell (p:=⟨gs,3,none⟩) hlt7).trans D3.out;have g5:xm.cell? ⟨gs,5,none⟩=some (.int .u32 (sf:Int)):=(hbm.cell (p:=⟨gs,5,none⟩) hlt7).trans d5;have g6:xm.cell? ⟨gs,6,none⟩=some (.int .u32 (sg:Int)):=(hbm.cell (p:=⟨gs,6,none⟩) hlt7).trans d6;have HX:=Yy HD2;have HLm:gs<xm.heap.size:=Nat.lt_of_lt_of_le hlt7 hbm.size
     clear HD HD2 hbm hS d5 d6 d7 dw dk D1 D2 D3 E3 E5 E8 E9 E10 x5i x6i x7i xwi hlt7 hltw hltk;clear C5 C6 C7 CW HBel HGS HGW;go_wp2_with fail
     go_quiet (refine Calls.quiet_of_same (tA.out _ _ (by decide) (by decide)))
     go_wp2_with fail;refine wp_still_at 22 (by kernel_rfl) (by kernel_rfl) fun W2 hW2=>?_;have m1:W2.cell? ⟨gs,1,none⟩=some (.int .u32 (sb:Int)):=by rw[hW2];exact g1
     have m2:W2.cell? ⟨gs,2,none⟩=some (.int .u32 (sc:Int)):=by rw[hW2];exact g2
     have m3:W2.cell? ⟨gs,3,none⟩=some (.int .u32 (sd:Int)):=by rw[hW2];exact g3
     have m5:W2.cell? ⟨gs,5,none⟩=some (.int .u32 (sf:Int)):=by rw[hW2];exact g5
     have m6:W2.cell? ⟨gs,6,none⟩=some (.int .u32 (sg:Int)):=by rw[hW2];exact g6
     have HX2:Hid (Below X6.heap.size X6 W2):=Yy (by rw[hW2];exact (below_drewN HX.out _).drew);have y1:=fun w9=>ixd gs 8 cs 1 (by omega) w9;have y2:=fun w9=>ixd gs 8 cs 2 (by omega) w9;have y3:=fun w9=>ixd gs 8 cs 3 (by omega) w9;have y5:=fun w9=>ixd gs 8 cs 5 (by omega) w9;have y6:=fun w9=>ixd gs 8 cs 6 (by omega) w9;clear hW2 g1 g2 g3 g5 g6 HX;simp only[List.take_succ_cons,List.take_zero,List.drop_succ_cons,List.drop_zero]
     repeat still_step
     refine wpStill_nil ?_;clear y1 y2 y3 y5 y6;go_wp2;go_roundw
     case rel=>
      refine⟨k+1,W2.heap.size,8,by omega,by go_num,rfl,by omega,by omega,?_,by simp,fun j hj=>?_,HX2.out.alloc HX2.out.size _⟩
      ·have:=HX2.out.size;have:=HRS6.out.lt;omega
      ·rw[HNR.out];exact (Row.new W2 120 (SH.St.list ⟨na,sa,sb,sc,nd,se,sf,sg⟩)).cell hj
     case measure=>simp[intOf];omega
    ·obtain rfl:k=64:=by omega
     have HNB':=Yy (HNB.out);generalize SH.rnds s0 T 64=r at *;have hrS3:=HRS6.out.below hbel HRS6.out.lt;have hin3:=HIN6.out.below hbel;have HrS3:=Yy hrS3;have Hin3:=Yy hin3;have HCS:=Yy hcs;clear hrS3 hin3 hcs hbel HRS6 HIN6 HCW6 HGW6 HCS0 HGS0;go_wp2_with fail;go_loopw [13] (fun i wr=>∃ j:Nat,j≤8∧i=.int .i64 (j:Int)∧Row wr (w.heap.size+1) 120 (SH.mix s0 r j)∧(∀ i,i<8→wr.cell? ⟨gs,i,none⟩=some (.int .u32 (r.list.getD i 0:Nat)))∧InSum w b4 off4 M wr) (fun i _=>8 - (intOf i).toNat)
     case atStart=>exact⟨0,by omega,rfl,by rw[SH.mix_zero];exact HrS3.out,HCS.out,Hin3.out⟩
     case round=>
      clear HrS3 Hin3 HCS;obtain⟨j,hj,rfl,hrS,hcs,hin⟩:=hrel;by_cases hj8:j<8
      ·have cx:=hrS.cell (j:=j) (by rw[SH.mix_len];exact hj8);rw[SH.mix_get s0 r hj8]at cx;have cy:=hcs j hj8;have asum:IntKind.u32.wrap ((s0.list.getD j 0:Nat)+((r.list.getD j 0:Nat):Int))=(SH.add (s0.list.getD j 0) (r.list.getD j 0):Nat):=by rw[IntKind.wrap_u32'];exact u32_sum _ _
       have HS:=Yy (fun (W2:World) (h2:Row W2 (w.heap.size+1) 120 (SH.mix s0 r j))=>h2.set j (SH.add (s0.list.getD j 0) (r.list.getD j 0)));rw[SH.mix_next s0 r hj8]at HS;have HrS:=Yy hrS;have Hin:=Yy hin;have HCS:=Yy hcs;have ix1:=fun w9=>ixd (w.heap.size+1) 8 8 j (by omega) w9;have ix2:=fun w9=>ixd gs 8 cs j (by omega) w9;clear hrS hcs hin;generalize SH.add (s0.list.getD j 0) (r.list.getD j 0)=v at *;generalize s0.list.getD j 0=x at *;generalize r.list.getD j 0=y at *;have IX1:=Yy ix1;have IX2:=Yy ix2;clear ix1 ix2;go_wp2_with fail;refine wp_still_at 12 (by kernel_rfl) (by kernel_rfl) fun W2 hW2=>?_;have k1:W2.cell? ⟨w.heap.size+1,j,none⟩=some (.int .u32 (x:Int)):=by rw[hW2];exact cx
       have k2:W2.cell? ⟨gs,j,none⟩=some (.int .u32 (y:Int)):=by rw[hW2];exact cy
       have qr:Row W2 (w.heap.size+1) 120 (SH.mix s0 r j):=by rw[hW2];exact HrS.out
       have qi:InSum w b4 off4 M W2:=by rw[hW2];exact Hin.out.below (Below.refl _ _).drew
       have qc:∀ i,i<8→W2.cell? ⟨gs,i,none⟩=some (.int .u32 (r.list.getD i 0:Nat)):=by rw[hW2];exact HCS.out
       have hfz:=qr.frozen j;have Q1:=Yy (HS.out W2 qr);have Q2:=Yy (qi.set (g:=w.heap.size+1) (by omega) hg4 j (.int .u32 (v:Int)));have Q3:=Yy (fun (i:Nat) (hi:i<8)=>(World.cell?_setCell_far W2 ⟨w.heap.size+1,j,none⟩ ⟨gs,i,none⟩ (.int .u32 (v:Int)) (fun e=>by simp only at e;omega)).trans (qc i hi));have ix1:=IX1.out;have ix2:=IX2.out;clear hW2 cx cy qr qi qc HrS Hin HCS HS IX1 IX2;simp only[List.take_succ_cons,List.take_zero,List.drop_succ_cons,List.drop_zero]
       repeat still_step
       refine wpStill_nil ?_;clear ix1 ix2;go_wp2;go_roundw
       case rel=>((repeat apply Exists.intro);exact⟨⟨j+1,by omega,by go_num,Q1.out,Q3.out,Q2.out⟩,rfl⟩)
       case measure=>simp[intOf];omega
      ·obtain rfl:j=8:=by omega
       rw[SH.mix_all]at hrS;have HrS:=Yy hrS;have Hin:=Yy hin;clear hrS hcs hin;go_wp2;go_roundw
       case rel=>exact⟨n+1,m+64,by rw[Hm.out];omega,hm64,by go_num,by rw[HNB'.out];exact HrS.out,Hin.out⟩
       case measure=>simp[intOf];omega
  ·obtain rfl:m=n4:=by omega
   have he:SH.sum zs=SH.dig (SH.blocks SH.H0 M n):=by rw[HE.out,hn4,hm,Nat.mul_div_cancel_left _ (by decide)]
   obtain⟨hbr,_,hbel⟩:=hin;rw[he]at HP hI;have hok:=SH.blocks_ok M SH.H0_ok n;clear HE he hm;generalize SH.blocks SH.H0 M n=s at *;have hIz:=Yy (show (Tryz.prog.info? 26).map (·.size)=some Z32.size by rw[← hZ32,sizeD,bvals_size];rfl);have hOz:=Yy (show Z32.all (·.oneCell')=true by rw[← hZ32];exact bvals_one _);have hpz:=Yy (World.setRow_alloc_new wr Z32 Z32 26);have hnz:=Yy (heap_alloc_new wr (.cells Z32 26));have f1:BRow (wr.alloc (.cells Z32 26)) wr.heap.size 26 (dpre s 0):=by rw[← hZ32];exact BRow.new wr _ _
   have f2:=hrS.old (.cells Z32 26);have f3:=hbr.old (.cells Z32 26);have f4:=hbel.alloc hbel.size (.cells Z32 26);have hg1:w.heap.size+1<wr.heap.size:=hrS.lt;have F1:=Yy f1;have F2:=Yy f2;have F3:=Yy f3;have F4:=Yy f4;clear f1 f2 f3 f4 hrS hbr hbel;go_wp2_with (first | ((with_reducible refine wpList_store_row (o:=⟨none,.store 26 (.tmp 14) (.tmp 147),_,_,_,_⟩) ?_ 26 (.tmp 14) (.tmp 147) ?_ wr.heap.size Z32 ?_ ?_ 26 Z32 hnz.out hIz.out rfl hOz.out ?_);rfl;rfl;rfl;rfl;rw[hpz.out]));clear hz hpz hnz;generalize wr.alloc (.cells Z32 26)=W9 at *;generalize wr.heap.size=g9 at *;go_loopw [15] (fun i wr=>∃ k:Nat,k≤32∧i=.int .i64 (k:Int)∧BRow wr g9 26 (dpre s k)∧Row wr (w.heap.size+1) 120 s.list∧BRow wr w.heap.size 26 (List.replicate 32 0)∧Below w.heap.size w wr) (fun i _=>32 - (intOf i).toNat)
   case atStart=>exact⟨0,by omega,rfl,F1.out,F2.out,F3.out,F4.out⟩
   case round=>
    clear F1 F2 F3 F4;obtain⟨k,hk,rfl,hr9,hrS,hbr,hbel⟩:=hrel;by_cases hkl:k<32
    ·have hq:=hrS.cell (j:=k / 4) (by show _<8;omega);have hf:=hr9.frozen k;obtain⟨old,hold⟩:∃ old,wr.cell? ⟨g9,k,none⟩=some old:=⟨_,hr9.cell (by rw[dpre_len s hk];exact hkl)⟩;have hxl:s.list.getD (k / 4) 0<4294967296:=by
      obtain⟨h1,h2,h3,h4,h5,h6,h7,h8⟩:=hok;refine SH.AllW.get (fun x hx=>?_) _;simp only[SH.St.list,List.mem_cons,List.not_mem_nil,or_false]at hx;rcases hx with rfl | rfl | rfl | rfl | rfl | rfl | rfl | rfl<;>assumption
     have HV:=Yy (dig_get s hkl);have HS:=Yy (hr9.set k ((SH.dig s).getD k 0));rw[dpre_next s hkl]at HS;have HR0:=Yy (hrS.other (a:=⟨g9,k,none⟩) (by simp only;omega) (.int .u8 ((SH.dig s).getD k 0)));have HR1:=Yy (hbr.other (a:=⟨g9,k,none⟩) (by simp only;omega) (.int .u8 ((SH.dig s).getD k 0)));have HBE:=Yy (hbel.setCell (p:=⟨g9,k,none⟩) (by simp only;omega) (.int .u8 ((SH.dig s).getD k 0)));clear hr9 hrS hbr hbel;generalize (SH.dig s).getD k 0=v at *;generalize s.list.getD (k / 4) 0=x at *;go_wp2_with fail
     go_loop [16,17] (fun a i=>∃ t:Nat,t≤3 - k % 4∧i=.int .i64 ((k % 4+t:Nat):Int)∧a=.int .u32 ((x / 256 ^ t:Nat):Int)) (fun _ i=>3 - (intOf i).toNat)
     case atStart=>exact⟨0,by omega,by go_num,by simp⟩
     case round=>
      obtain⟨t,ht,rfl,rfl⟩:=hrel;by_cases htl:t<3 - k % 4
      ·have HQ:=Yy (show ((x / 256 ^ t:Nat):Int) / 256=((x / 256 ^ (t+1):Nat):Int) by rw[Nat.pow_succ,← Nat.div_div_eq_div_mul];omega);have hle:x / 256 ^ t<4294967296:=Nat.lt_of_le_of_lt (Nat.div_le_self _ _) hxl;obtain⟨d,hd⟩:∃ d,d=k % 4+t:=⟨_,rfl⟩;have hd3:d<3:=by omega
       rw[← hd];have HDD:=Yy hd;clear hd;generalize hX1:x / 256 ^ (t+1)=X1 at *;generalize x / 256 ^ t=X0 at *;go_wp2;go_round
       case rel=>exact⟨t+1,by omega,congrArg (Value.int .i64) (by have:=HDD.out;omega),by rw[HQ.out,hX1]⟩
       case measure=>simp[intOf];omega
      ·obtain rfl:t=3 - k % 4:=by omega
       have h3:k % 4+(3 - k % 4)=3:=by omega
       rw[h3];have hle:x / 256 ^ (3 - k % 4)<4294967296:=Nat.lt_of_le_of_lt (Nat.div_le_self _ _) hxl;generalize x / 256 ^ (3 - k % 4)=X3 at *;clear h3;go_wp2;go_roundw
       case rel=>
        have hv2:(X3:Int) % 256=v:=by rw[HV.out];omega
        rw[hv2];exact⟨k+1,by omega,by go_num,HS.out,HR0.out,HR1.out,HBE.out⟩
       case measure=>simp[intOf];omega
    ·obtain rfl:k=32:=by omega
     rw[dpre_all]at hr9;have hdl:=SH.dig_len s;have hZT:=Yy (show (bvals (List.replicate 32 0)).size=(bvals (SH.dig s)).size by rw[bvals_size,bvals_size,hdl,List.length_replicate]);have hput:=Yy (hbr.put (SH.dig s));have hbp:=Yy (below_setRow hbel Nl (bvals (SH.dig s)));have h18:=Yy (bvals_one (SH.dig s));unfold BRow at hr9 hbr hput;have Hr9:=Yy hr9;have Hr1:=Yy hbr;clear hr9 hrS hbr hbel hdl;generalize bvals (SH.dig s)=R at *;go_wp2_with (first | ((with_reducible refine wpList_load_row (o:=⟨some 170,.load 26 (.tmp 14),_,_,_,_⟩) ?_ 26 (.tmp 14) ?_ g9 ?_ 26 R (0,0) _ Hr9.out Tryz.underlying26 ?_ hI.out ?_);rfl;rfl;rfl;rfl) | ((with_reducible refine wpList_store_row (o:=⟨none,.store 26 (.tmp 2) (.tmp 170),_,_,_,_⟩) ?_ 26 (.tmp 2) (.tmp 170) ?_ w.heap.size R ?_ ?_ 26 _ Hr1.out hI.out hZT.out h18.out ?_);rfl;rfl;rfl;rfl));exact bodyPost_ret (v:=.agg R) (by exact results_cell_row Tryz.results78 _ _ w.heap.size 26 R (0,0) _ rfl hput.out Tryz.underlying26 rfl hI.out) (by rfl) (HP.out _ _ rfl hbp.out)
end
section
open Go.RowKit WM
theorem rof_dig (s:ByteArray) (w:World) (hs:s.size≤100000000):
  Calls Tryz.prog 47 #[.string s] w (DSumPost (nums s) w):=by
 have hz:=zeroD;have hcv:=fun (w9:World)=>Lib.run_convert_string_bytes (P:=Tryz.prog) w9 9 105 5 s Tryz.underlying9 Tryz.underlying105 Tryz.underlying5;have hbA:Below w.heap.size w (w.alloc (.cells (bvals (List.replicate 32 0)) 26)):=(Below.refl _ _).alloc Nl _;have hrA:=BRow.new w 26 (List.replicate 32 0);have hszA:(w.alloc (.cells (bvals (List.replicate 32 0)) 26)).heap.size=w.heap.size+1:=World.size_alloc _ _;have HIs:=Yy (show (Tryz.prog.info? 26).map (·.size)=some (bvals (SH.sum (nums s))).size by rw[sizeD,bvals_size,SH.sum_len]);have HZs:=Yy (show (bvals (List.replicate 32 0)).size=(bvals (SH.sum (nums s))).size by rw[bvals_size,bvals_size,SH.sum_len,List.length_replicate]);have HOs:=Yy (bvals_one (SH.sum (nums s)));have HP:Hid (∀ e w',e=.returned (.agg (bvals (SH.sum (nums s))))→Below w.heap.size w w'→DSumPost (nums s) w e w'):=Yy (fun _ _ h1 h2=>⟨h1,h2⟩);have HC:=Yy (fun (X:World) (hX:Below w.heap.size w X)=>rsum_dig (some ⟨X.heap.size,0,none⟩) s.size (grownCap X s.size 0 5) (nums s) (Lib.bytesWorld X 5 s) (byt_bytes X 5 s) (nums_len s) hs (fun e=>by cases e) (nums_bytes s) Nl);have HC:=Yy (HC.out _ hbA);rw[hszA]at HC;unfold DSumPost at HC
 have FIN:=Yy (fun (X:World) (hX:Below (w.heap.size+1) (w.alloc (.cells (bvals (List.replicate 32 0)) 26)) X)=>(⟨hrA.below hX (by omega),(hrA.below hX (by omega)).put (SH.sum (nums s)),below_setRow (hbA.trans (hX.mono (by omega))) Nl (bvals (SH.sum (nums s)))⟩:BRow X w.heap.size 26 (List.replicate 32 0)∧BRow (X.setRow w.heap.size (bvals (SH.sum (nums s)))) w.heap.size 26 (SH.sum (nums s))∧Below w.heap.size w (X.setRow w.heap.size (bvals (SH.sum (nums s))))));unfold BRow at FIN;have HBA:=Yy hbA;have HSZ:=Yy hszA;clear hrA hbA hszA;generalize bvals (List.replicate 32 0)=Z32 at *;generalize bvals (SH.sum (nums s))=VS at *;go_enter Tryz.func47,Tryz.ntmps47;go_wp2_with fail;refine HC.out.mono ?_;rintro e x ⟨rfl,hbx⟩;have hX:Below (w.heap.size+1) (w.alloc (.cells Z32 26)) x:=by
  exact Tta78
 obtain⟨f1,f2,f3⟩:=FIN.out x hX;have F1:=Yy f1;have F2:=Yy f2;have F3:=Yy f3;clear f1 f2 f3 hX hbx;go_wp2_with (first | ((with_reducible refine wpList_store_row (o:=⟨none,.store 26 (.tmp 2) (.tmp 5),_,_,_,_⟩) ?_ 26 (.tmp 2) (.tmp 5) ?_ w.heap.size VS ?_ ?_ 26 _ F1.out HIs.out HZs.out HOs.out ?_);rfl;rfl;rfl;rfl));exact bodyPost_ret (v:=.agg VS) (by exact results_cell_row Tryz.results47 _ _ w.heap.size 26 VS (0,0) _ rfl F2.out Tryz.underlying26 rfl HIs.out) (by rfl) (HP.out _ _ rfl F3.out)
theorem Tta14 {p:Prop} (h:p:=by
  have c0:=hr0.cell (j:=k) (by rw[LX.out];omega);have c1:=hr1.cell (j:=k) (by rw[LY.out];omega);clear hpre hr0 hr1 hbel R0 R1 HB0;by_cases hkk:xs.getD k 0=ys.getD k 0
  ·have HNX:=Yy (show ∀ j,j<k+1→xs.getD j 0=ys.getD j 0 from fun j hj=>by
    rcases Nat.lt_or_ge j k with h3 | h3
    ·exact HPre.out j h3
    ·rw[show j=k by omega];exact hkk)
   have ht:(xs.getD k 0 != ys.getD k 0)=false:=by rw[hkk];simp
   clear hkk;generalize xs.getD k 0=x at *;generalize ys.getD k 0=y at *;go_wp2_with fail
   go_quiet (fail)
   go_wp2;go_roundw
   case rel=>exact⟨k+1,by omega,by go_num,HNX.out,Hr0.out,Hr1.out,below_drewN Hbel.out _⟩
   case measure=>simp[intOf];omega
  ·have HV:=Yy (lessL_at k (by rw[LX.out,LY.out]) (by rw[LX.out];omega) HPre.out hkk);have ht:(xs.getD k 0 != ys.getD k 0)=true:=bne_iff_ne.2 hkk;exact Ttb14
 ):p:=h
theorem Tta48 {p:Prop} (h:p:=by
  have he:xs=ys:=lists_eq (by rw[LX.out,LY.out]) fun j hj=>HPre.out j (by rw[LX.out]at hj;omega);have HV:=Yy (show lessL xs ys=false by rw[he];exact lessL_self _);clear hpre hr0 hr1 hbel R0 R1 HB0 he;go_wp2;go_ret;exact⟨by rw[HV.out];rfl,Hbel.out⟩
 ):p:=h
theorem rless_dig (xs ys:List Int) (w:World) (hx:AllBytes xs) (hy:AllBytes ys) (lx:xs.length=32) (ly:ys.length=32):
  Calls Tryz.prog 46 #[.agg (bvals xs),.agg (bvals ys)] w fun e w'=>e=.returned (.bool (lessL xs ys))∧Below w.heap.size w w':=by
 have hr0:=(BRow.new w 26 xs).old (.cells (bvals ys) 26);have hr1:=BRow.new (w.alloc (.cells (bvals xs) 26)) 26 ys;rw[World.size_alloc]at hr1;have hb0:Below w.heap.size w ((w.alloc (.cells (bvals xs) 26)).alloc (.cells (bvals ys) 26)):=((Below.refl _ _).alloc Nl _).alloc (by simp) _;have LX:=Yy lx;have LY:=Yy ly;have R0:=Yy hr0;have R1:=Yy hr1;have HB0:=Yy hb0;clear lx ly hx hy hr0 hr1 hb0;generalize hVX:bvals xs=VX at *;generalize hVY:bvals ys=VY at *;go_enter Tryz.func46,Tryz.ntmps46;go_wp2_with fail;go_loopw [5] (fun i wr=>∃ k:Nat,k≤32∧i=.int .i64 (k:Int)∧(∀ j,j<k→xs.getD j 0=ys.getD j 0)∧BRow wr w.heap.size 26 xs∧BRow wr (w.heap.size+1) 26 ys∧Below w.heap.size w wr) (fun i _=>33 - (intOf i).toNat)
 case atStart=>
  exact Tta91
 case round=>
  obtain⟨k,hk,rfl,hpre,hr0,hr1,hbel⟩:=hrel;have HPre:=Yy hpre;have Hr0:=Yy hr0;have Hr1:=Yy hr1;have Hbel:=Yy hbel;by_cases hlt:k<32
  ·exact Tta14
  ·exact Tta48
end
end
end Go.Proofs.YtnlhkpmgbpfjmaaGreatDoor
