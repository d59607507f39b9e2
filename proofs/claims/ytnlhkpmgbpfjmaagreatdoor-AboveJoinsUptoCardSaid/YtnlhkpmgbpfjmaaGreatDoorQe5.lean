import Derived.Test.YtnlhkpmgbpfjmaaGreatDoorQe2
/- What functions answer, part 5. -/
namespace Go.Proofs.YtnlhkpmgbpfjmaaGreatDoor
set_option linter.unusedVariables false
set_option linter.unusedSimpArgs false
set_option maxHeartbeats 16000000
set_option maxRecDepth 100000
section
section
open Go.RowKit WM
def BRow (w:World) (g:Nat) (t:TypeId) (l:List Int):Prop:=w.heap[g]?=some (.cells (bvals l) t (0,0))
theorem BRow.cell {w:World} {g:Nat} {t:TypeId} {l:List Int} (h:BRow w g t l) {j:Nat} (hj:j<l.length):w.cell? ⟨g,j,none⟩=some (.int .u8 (l.getD j 0)):=
 (cell_of_row w g j _ _ _ h).trans (bvals_get hj)
theorem BRow.frozen {w:World} {g:Nat} {t:TypeId} {l:List Int} (h:BRow w g t l) (j:Nat):w.frozen? ⟨g,j,none⟩=false:=frozen_of_row w g j _ _ h
theorem BRow.set {w:World} {g:Nat} {t:TypeId} {l:List Int} (h:BRow w g t l) (j:Nat) (x:Int):BRow (w.setCell ⟨g,j,none⟩ (.int .u8 x)) g t (l.set j x):=by
 unfold BRow;rw[heap_setCell_same w g j _ _ _ h,bvals_set]
theorem BRow.other {w:World} {g:Nat} {t:TypeId} {l:List Int} (h:BRow w g t l) {a:Addr} (ha:g≠a.block) (v:Value):BRow (w.setCell a v) g t l:=by
 unfold BRow;rw[heap_setCell_other w a g v ha];exact h
theorem BRow.lt {w:World} {g:Nat} {t:TypeId} {l:List Int} (h:BRow w g t l):g<w.heap.size:=by
 rcases Nat.lt_or_ge g w.heap.size with h1 | h1
 ·exact h1
 ·unfold BRow at h;rw[Array.getElem?_eq_none h1]at h;cases h
theorem BRow.below {w w':World} {g B:Nat} {t:TypeId} {l:List Int} (h:BRow w g t l) (hb:Below B w w') (hg:g<B):BRow w' g t l:=by
 unfold BRow;rw[hb.block g hg];exact h
theorem BRow.new (w:World) (t:TypeId) (l:List Int):BRow (w.alloc (.cells (bvals l) t)) w.heap.size t l:=heap_alloc_new w _
theorem BRow.old {w:World} {g:Nat} {t:TypeId} {l:List Int} (h:BRow w g t l) (o:Obj):BRow (w.alloc o) g t l:=by
 unfold BRow;rw[Below.heap_alloc w o g h.lt];exact h
theorem BRow.put {w:World} {g:Nat} {t:TypeId} {l:List Int} (h:BRow w g t l) (l':List Int):BRow (w.setRow g (bvals l')) g t l':=setRow_heap w g _ _ _ _ h
def fpre (k:Nat):List Nat:=SH.H0.list.take k++List.replicate (8 - k) 0
theorem fpre_next:∀ k,k<8→(fpre k).set k (SH.H0.list.getD k 0)=fpre (k+1):=by decide
theorem fpre_len:∀ k,k≤8→(fpre k).length=8:=by decide
def FirstPost (w:World) (e:Ending) (w':World):Prop:=e=.returned (.agg (vals SH.H0.list))∧Below w.heap.size w w'
theorem first_any (w:World) (hlaid:Laid w):Calls Tryz.prog 103 #[] w (FirstPost w):=by
 have hz8:=zeroW8;have HLA:=Yy hlaid;have HP:Hid (∀ e w',e=.returned (.agg (vals SH.H0.list))→Below w.heap.size w w'→FirstPost w e w'):=Yy (fun _ _ h1 h2=>⟨h1,h2⟩);clear hlaid;generalize hZ8:vals (List.replicate 8 0)=Z8 at *;go_enter Tryz.func103,Tryz.ntmps103;go_wp2_with fail;go_loopw [3] (fun i wr=>∃ k:Nat,k≤8∧i=.int .i64 (k:Int)∧Row wr (w.heap.size+1) 130 (fpre k)∧Row wr w.heap.size 130 (List.replicate 8 0)∧Below w.heap.size w wr) (fun i _=>8 - (intOf i).toNat)
 case atStart=>
  subst hZ8;refine⟨0,by omega,rfl,?_,(Row.new w _ _).old _,((Below.refl _ _).alloc Nl _).alloc (by simp) _⟩;have:=Row.new (w.alloc (.cells (vals (List.replicate 8 0)) 130)) 130 (List.replicate 8 0);rw[World.size_alloc]at this;exact this
 case round=>
  clear hz8;obtain⟨k,hk,rfl,hr1,hr0,hbel⟩:=hrel;by_cases hlt:k<8
  ·have hq:wr.cell? ⟨0,k,none⟩=some (.int .u32 (SH.H0.list.getD k 0:Nat)):=(HLA.out.below hbel Nl).1 k hlt;have hf:=hr1.frozen k;obtain⟨old,hold⟩:∃ old,wr.cell? ⟨w.heap.size+1,k,none⟩=some old:=⟨_,hr1.cell (by rw[fpre_len k hk];exact hlt)⟩;have HS:=Yy (hr1.set k (SH.H0.list.getD k 0));rw[fpre_next k hlt]at HS;have HR:=Yy (hr0.other (a:=⟨w.heap.size+1,k,none⟩) (by simp only;omega) (.int .u32 (SH.H0.list.getD k 0:Nat)));have HBE:=Yy (hbel.setCell (p:=⟨w.heap.size+1,k,none⟩) (by simp only;omega) (.int .u32 (SH.H0.list.getD k 0:Nat)));clear hr0 hr1 hbel;generalize SH.H0.list.getD k 0=x at *;go_wp2;go_roundw
   case rel=>first | exact⟨k+1,by omega,by go_num,HS.out,HR.out,HBE.out⟩ | ((repeat apply Exists.intro);exact⟨⟨k+1,by omega,by go_num,HS.out,HR.out,HBE.out⟩,rfl⟩)
   case measure=>simp[intOf];omega
  ·obtain rfl:k=8:=by omega
   have hr1':Row wr (w.heap.size+1) 130 SH.H0.list:=hr1;have hI8:=Yy (show (Tryz.prog.info? 130).map (·.size)=some (vals SH.H0.list).size by rw[sizeW8,vals_size];rfl);have hZT8:=Yy (show (vals (List.replicate 8 0)).size=(vals SH.H0.list).size by rw[vals_size,vals_size];rfl);have hput:=Yy (hr0.put SH.H0.list);have hbp:=Yy (below_setRow hbel Nl (vals SH.H0.list));have h18:=Yy (vals_one SH.H0.list);unfold Row at hr1' hr0 hput;have Hr1:=Yy hr1';have Hr0:=Yy hr0;clear hr1 hr1' hr0 hbel;generalize vals SH.H0.list=R at *;go_wp2_with (first | ((with_reducible refine wpList_load_row (o:=⟨some 12,.load 130 (.tmp 1),_,_,_,_⟩) ?_ 130 (.tmp 1) ?_ (w.heap.size+1) ?_ 130 R (0,0) _ Hr1.out Tryz.underlying130 ?_ hI8.out ?_);rfl;rfl;rfl;rfl) | ((with_reducible refine wpList_store_row (o:=⟨none,.store 130 (.tmp 0) (.tmp 12),_,_,_,_⟩) ?_ 130 (.tmp 0) (.tmp 12) ?_ w.heap.size R ?_ ?_ 130 _ Hr0.out hI8.out hZT8.out h18.out ?_);rfl;rfl;rfl;rfl));exact bodyPost_ret (v:=.agg R) (by exact results_cell_row Tryz.results103 _ _ w.heap.size 130 R (0,0) _ rfl hput.out Tryz.underlying130 rfl hI8.out) (by rfl) (HP.out _ _ rfl hbp.out)
def dpre (s:SH.St) (k:Nat):List Int:=(SH.dig s).take k++List.replicate (32 - k) 0
theorem dpre_len (s:SH.St) {k:Nat} (hk:k≤32):(dpre s k).length=32:=by simp[dpre,SH.dig_len];omega
theorem dpre_next (s:SH.St) {k:Nat} (hk:k<32):(dpre s k).set k ((SH.dig s).getD k 0)=dpre s (k+1):=by
 have hl:=SH.dig_len s;unfold dpre;rw[List.set_append,if_neg (by rw[List.length_take];omega),List.length_take,Nat.min_eq_left (by omega),Nat.sub_self,show 32 - k=(32 - (k+1))+1 by omega,List.replicate_succ,Z3,
  List.take_succ_eq_append_getElem (by omega),List.getD,List.getElem?_eq_getElem (by omega),List.append_assoc]
 rfl
theorem dpre_all (s:SH.St):dpre s 32=SH.dig s:=by
 unfold dpre;rw[List.take_of_length_le (by rw[SH.dig_len];omega)];simp
def DigPost (s:SH.St) (w:World) (e:Ending) (w':World):Prop:=e=.returned (.agg (bvals (SH.dig s)))∧Below w.heap.size w w'
theorem dig_get (s:SH.St) {k:Nat} (hk:k<32):(SH.dig s).getD k 0=((s.list.getD (k / 4) 0 / 256 ^ (3 - k % 4) % 256:Nat):Int):=by
 simp[SH.dig,List.getD,hk]
theorem dig_any (s:SH.St) (hs:s.ok) (w:World):Calls Tryz.prog 105 #[.agg (vals s.list)] w (DigPost s w):=by
 have hz:=zeroD;have HO:=Yy hs;have HP:Hid (∀ e w',e=.returned (.agg (bvals (SH.dig s)))→Below w.heap.size w w'→DigPost s w e w'):=Yy (fun _ _ h1 h2=>⟨h1,h2⟩);clear hs;generalize hZ:bvals (List.replicate 32 0)=Z at *;generalize hV:vals s.list=V at *;go_enter Tryz.func105,Tryz.ntmps105;go_wp2_with fail;go_loopw [6] (fun i wr=>∃ k:Nat,k≤32∧i=.int .i64 (k:Int)∧BRow wr (w.heap.size+2) 26 (dpre s k)∧BRow wr (w.heap.size+1) 26 (List.replicate 32 0)∧Row wr w.heap.size 130 s.list∧Below w.heap.size w wr) (fun i _=>32 - (intOf i).toNat)
 case atStart=>
  subst hZ hV;refine⟨0,by omega,rfl,?_,?_,((Row.new w _ _).old _).old _,(((Below.refl _ _).alloc Nl _).alloc (by simp) _).alloc (by simp;omega) _⟩
  ·have:=BRow.new ((w.alloc (.cells (vals s.list) 130)).alloc (.cells (bvals (List.replicate 32 0)) 26)) 26 (List.replicate 32 0);rw[World.size_alloc,World.size_alloc]at this;exact this
  ·have:=BRow.new (w.alloc (.cells (vals s.list) 130)) 26 (List.replicate 32 0);rw[World.size_alloc]at this;exact this.old _
 case round=>
  clear hz;obtain⟨k,hk,rfl,hr2,hr1,hr0,hbel⟩:=hrel;by_cases hlt:k<32
  ·have hq:=hr0.cell (j:=k / 4) (by show _<8;omega);have hf:=hr2.frozen k;obtain⟨old,hold⟩:∃ old,wr.cell? ⟨w.heap.size+2,k,none⟩=some old:=⟨_,hr2.cell (by rw[dpre_len s hk];exact hlt)⟩;have HV:=Yy (show ((s.list.getD (k / 4) 0:Nat):Int) / 2 ^ ((3 - k % 4)*8) % 256=(SH.dig s).getD k 0 by
    rw[dig_get s hlt,show (256:Nat)=2 ^ 8 by rfl,← Nat.pow_mul,Nat.mul_comm 8];simp)
   have HS:=Yy (hr2.set k ((SH.dig s).getD k 0));rw[dpre_next s hlt]at HS;have HR:=Yy (hr1.other (a:=⟨w.heap.size+2,k,none⟩) (by simp only;omega) (.int .u8 ((SH.dig s).getD k 0)));have HR0:=Yy (hr0.other (a:=⟨w.heap.size+2,k,none⟩) (by simp only;omega) (.int .u8 ((SH.dig s).getD k 0)));have HBE:=Yy (hbel.setCell (p:=⟨w.heap.size+2,k,none⟩) (by simp only;omega) (.int .u8 ((SH.dig s).getD k 0)));clear hr0 hr1 hr2 hbel;generalize (SH.dig s).getD k 0=v at *;generalize s.list.getD (k / 4) 0=x at *;go_wp2;go_roundw
   case rel=>
    rw[HV.out];exact⟨k+1,by omega,by go_num,HS.out,HR.out,HR0.out,HBE.out⟩
   case measure=>simp[intOf];omega
  ·obtain rfl:k=32:=by omega
   rw[dpre_all]at hr2;have hdl:=SH.dig_len s;have hI:=Yy (show (Tryz.prog.info? 26).map (·.size)=some (bvals (SH.dig s)).size by rw[sizeD,bvals_size,hdl]);have hZT:=Yy (show (bvals (List.replicate 32 0)).size=(bvals (SH.dig s)).size by rw[bvals_size,bvals_size,hdl,List.length_replicate]);have hput:=Yy (hr1.put (SH.dig s));have hbp:=Yy (below_setRow hbel (g:=w.heap.size+1) (by omega) (bvals (SH.dig s)));have h18:=Yy (bvals_one (SH.dig s));unfold BRow at hr2 hr1 hput;have Hr2:=Yy hr2;have Hr1:=Yy hr1;clear hr1 hr2 hr0 hbel hdl;generalize bvals (SH.dig s)=R at *;go_wp2_with (first | ((with_reducible refine wpList_load_row (o:=⟨some 23,.load 26 (.tmp 3),_,_,_,_⟩) ?_ 26 (.tmp 3) ?_ (w.heap.size+2) ?_ 26 R (0,0) _ Hr2.out Tryz.underlying26 ?_ hI.out ?_);rfl;rfl;rfl;rfl) | ((with_reducible refine wpList_store_row (o:=⟨none,.store 26 (.tmp 2) (.tmp 23),_,_,_,_⟩) ?_ 26 (.tmp 2) (.tmp 23) ?_ (w.heap.size+1) R ?_ ?_ 26 _ Hr1.out hI.out hZT.out h18.out ?_);rfl;rfl;rfl;rfl));exact bodyPost_ret (v:=.agg R) (by exact results_cell_row Tryz.results105 _ _ (w.heap.size+1) 26 R (0,0) _ rfl hput.out Tryz.underlying26 rfl hI.out) (by rfl) (HP.out _ _ rfl hbp.out)
end
section
open Go.RowKit WM
def lenOfV:Value→Nat
 | .slice _ n _=>n
 | _=>0
theorem byt_row (w:World) (e:TypeId) (fz:Nat×Nat) (zs:List Int) (B:Nat) (hB:w.heap.size<B):Byt (w.alloc (.cells (zs.map (Value.int .u8)).toArray e fz)) B (some ⟨w.heap.size,0,none⟩) zs:=fun _=>by
 refine⟨_,_,rfl,hB,fun i hi=>?_⟩;rw[Nat.zero_add,cell_of_row _ _ i _ _ _ (heap_alloc_new w _)];simp[List.getD,hi]
def Own (w wr:World) (v:Value) (L:List Int):Prop:=∃ A n c,v=.slice A n c∧L.length=n∧wr.ownsRow w.heap.size 5 1 (.slice A n c) n (L.map (Value.int .u8))∧Below w.heap.size w wr
theorem own_of {w wr:World} {v:Value} {n:Nat} {L:List Int} (ho:wr.ownsRow w.heap.size 5 1 v n (L.map (Value.int .u8))) (hb:Below w.heap.size w wr):Own w wr v L:=by
 obtain⟨A,m,c,hv,hm,_,_,ho',_⟩:=gives_own ho hb
 injection hv with hv
 exact⟨A,m,c,hv,hm,hv▸ho',hb⟩
theorem Own.gives {w wr:World} {v:Value} {L:List Int} (h:Own w wr v L):Gives w L (.returned v) wr:=by
 obtain⟨A,n,c,rfl,hl,ho,hb⟩:=h;exact gives_own ho hb
theorem Own.len {w wr:World} {v:Value} {L:List Int} (h:Own w wr v L):lenOfV v=L.length:=by
 obtain⟨A,n,c,rfl,hl,_⟩:=h;exact hl.symm
theorem be8_bytes (n:Nat):AllBytes (SH.be8 n):=by
 intro z hz;simp only[SH.be8,List.mem_cons,List.not_mem_nil,or_false]at hz;rcases hz with rfl | rfl | rfl | rfl | rfl | rfl | rfl | rfl<;>omega
theorem tail_bytes (r n:Nat):AllBytes (SH.tail r n):=by
 unfold SH.tail;refine all_append (all_append ?_ ?_) (be8_bytes _)
 ·intro z hz;rw[List.mem_singleton.1 hz];omega
 ·intro z hz;rw[(List.mem_replicate.1 hz).2];omega
theorem be8_get (n:Nat) {i:Nat} (hi:i<8):(n:Int) / 2 ^ ((7 - i)*8) % 256=(SH.be8 n).getD i 0:=by
 have h:i=0∨i=1∨i=2∨i=3∨i=4∨i=5∨i=6∨i=7:=by omega
 rcases h with rfl | rfl | rfl | rfl | rfl | rfl | rfl | rfl<;>simp[SH.be8]
theorem be8_next (n:Nat) {i:Nat} (hi:i<8):(SH.be8 n).take i++[(SH.be8 n).getD i 0]=(SH.be8 n).take (i+1):=by
 rw[List.take_succ_eq_append_getElem (show i<(SH.be8 n).length from hi),List.getD,List.getElem?_eq_getElem (show i<(SH.be8 n).length from hi),Option.getD_some]
theorem ending_any {B:Nat} (A:Option Addr) (r cap n:Nat) (zs:List Int) (w:World) (h:Byt w B A zs) (hl:zs.length=r) (hn:n≤1152921504606846975) (hr:r≤1000) (hnil:A=none→cap=0) (hB:B≤w.heap.size):
  Calls Tryz.prog 104 #[.slice A r cap,.int .i64 n] w (Gives w (zs++SH.tail r n)):=by
 obtain⟨i0,hi,hz0,hz1,hz2⟩:=info_parts infoByte;have HH:=Yy h;have HL:=Yy hl;have HN:=Yy hnil;clear h hl hnil;have e0:=own_new w w.heap.size Nl 5 [] (by simp[maxLen]);have hb0:Below w.heap.size w (w.alloc (.cells #[] 5)):=(Below.refl _ _).alloc Nl _;have hy0:=HH.out.below (hb0.mono hB);have HG:=Yy (show SH.gap r=(119 - r % 64) % 64 from rfl);have hgap:SH.gap r≤63:=by rw[HG.out];omega
 have HT:=Yy (show zs++SH.tail r n=zs++[128]++List.replicate (SH.gap r) 0++SH.be8 (8*n) by simp[SH.tail]);have HFin:Hid (∀ v w',Own w w' v (zs++SH.tail r n)→Gives w (zs++SH.tail r n) (.returned v) w'):=Yy (fun _ _ h=>h.gives);generalize SH.gap r=G at *;generalize zs++SH.tail r n=R at *;go_enter Tryz.func104,Tryz.ntmps104;go_wp2_with (first
  | (at_builtin;refine wpList_append_byt (o:=⟨some 11,_,_,_,_,_⟩) _ rfl _ _ 105 rfl w.heap.size 5 i0 Tryz.underlying105 hi hz0 hz1 hz2 _ 0 [] rfl e0 B A r cap zs rfl hy0 HL.out HN.out (by omega) hb0.size ?_;intro v1 w1 ho1 hg1;have hb1:=hb0.grown hg1 hb0.size (fun g hg=>own_base e0 hg);have ho1':=own_below ho1 ((Below.refl w1.heap.size w1).alloc Nl (.cells #[.int .u8 128] 5));have hb1':=hb1.alloc hb1.size (.cells #[.int .u8 128] 5);have hy1:=byt_row w1 5 (0,0) [128] (w1.heap.size+1) (by omega);clear hg1)
  | (at_builtin;refine wpList_append_byt (o:=⟨some 14,_,_,_,_,_⟩) _ rfl _ _ 105 rfl w.heap.size 5 i0 Tryz.underlying105 hi hz0 hz1 hz2 _ (0+r) ([]++zs) rfl ho1' (w1.heap.size+1) (some ⟨w1.heap.size,0,none⟩) 1 1 [128] rfl hy1 rfl (fun e=>by cases e) (by omega) hb1'.size ?_;intro v2 w2 ho2 hg2;have hb2:=hb1'.grown hg2 hb1'.size (fun g hg=>own_base ho1 hg);have HO2:=Yy (own_of ho2 hb2);clear hg2))
 clear ho2 hb2 hy1 hb1' ho1' hb1 ho1 hy0 hb0 e0;go_loopw [5] (fun v wr=>∃ k:Nat,k≤G∧Own w wr v (zs++[128]++List.replicate k 0)) (fun v _=>(r+1+G) - lenOfV v)
 case atStart=>exact⟨0,by omega,by have:=HO2.out;simpa using this⟩
 case round=>
  clear HO2;obtain⟨k,hk,A2,m,c,rfl,hm,hown,hbel⟩:=hrel;have hmk:m=r+1+k:=by rw[← hm];simp[HL.out];omega
  have HM:=Yy hm;have hm64:m≤1100:=by omega
  by_cases hlt:k<G
  ·have ht:((m:Int) % 64 != 56)=true:=by have:=HG.out;simp;omega
   have HMK:=Yy hmk;have ho':=own_below hown ((Below.refl wr.heap.size wr).alloc Nl (.cells #[.int .u8 0] 5));have hb':=hbel.alloc hbel.size (.cells #[.int .u8 0] 5);have hy:=byt_row wr 5 (0,0) [0] (wr.heap.size+1) (by omega)
   clear hmk hm;go_wp2_with (at_builtin;refine wpList_append_byt (o:=⟨some 21,_,_,_,_,_⟩) _ rfl _ _ 105 rfl w.heap.size 5 i0 Tryz.underlying105 hi hz0 hz1 hz2 _ m _ rfl ho' (wr.heap.size+1) (some ⟨wr.heap.size,0,none⟩) 1 1 [0] rfl hy rfl (fun e=>by cases e) (by omega) hb'.size ?_;intro v2 w2 ho2 hg2;have hb2:=hb'.grown hg2 hb'.size (fun g hg=>own_base hown hg);have HO2:=own_of ho2 hb2;clear hg2);go_roundw
   case rel=>
    rw[List.append_assoc,← List.replicate_succ']at HO2;exact⟨k+1,by omega,HO2⟩
   case measure=>
    have hl2:lenOfV v2=m+1:=by rw[HO2.len,List.length_append,HM.out];rfl
    have hm2:=HMK.out;show r+1+G - lenOfV v2<r+1+G - m;rw[hl2];omega
  ·obtain rfl:k=G:=by omega
   have ht:((m:Int) % 64 != 56)=false:=by have:=HG.out;simp;omega
   have HMK:=Yy hmk;have HO:=Yy (show Own w wr (.slice A2 m c) (zs++[128]++List.replicate k 0) from⟨A2,m,c,rfl,hm,hown,hbel⟩);clear hmk hm hown hbel;go_wp2_with fail;go_loopw [5,25] (fun v i wr=>∃ j:Nat,j≤8∧i=.int .i64 (j:Int)∧Own w wr v (zs++[128]++List.replicate k 0++(SH.be8 (8*n)).take j)) (fun _ i _=>8 - (intOf i).toNat)
   case atStart=>exact⟨0,by omega,rfl,by have:=HO.out;simpa using this⟩
   case round=>
    clear HO;obtain⟨j,hj,rfl,A3,m3,c3,rfl,hm3,hown,hbel⟩:=hrel;by_cases hlt:j<8
    ·have hv:((n:Int)*8) / 2 ^ ((7 - j)*8) % 256=(SH.be8 (8*n)).getD j 0:=by
      have:=be8_get (8*n) hlt;rwa[show ((8*n:Nat):Int)=(n:Int)*8 by omega]at this
     have HNX:=Yy (be8_next (8*n) hlt);have hm3':m3≤1200:=by
      rw[← hm3,List.length_append,List.length_take];simp[HL.out];omega
     have HM3:=Yy hm3;generalize (SH.be8 (8*n)).getD j 0=x at *;have ho':=own_below hown ((Below.refl wr.heap.size wr).alloc Nl (.cells #[.int .u8 x] 5));have hb':=hbel.alloc hbel.size (.cells #[.int .u8 x] 5);have hy:=byt_row wr 5 (0,0) [x] (wr.heap.size+1) (by omega)
     clear hm3;go_wp2_with (at_builtin;refine wpList_append_byt (o:=⟨some 37,_,_,_,_,_⟩) _ rfl _ _ 105 rfl w.heap.size 5 i0 Tryz.underlying105 hi hz0 hz1 hz2 _ m3 _ rfl ho' (wr.heap.size+1) (some ⟨wr.heap.size,0,none⟩) 1 1 [x] rfl hy rfl (fun e=>by cases e) (by omega) hb'.size ?_;intro v2 w2 ho2 hg2;have hb2:=hb'.grown hg2 hb'.size (fun g hg=>own_base hown hg);have HO2:=own_of ho2 hb2;clear hg2);go_roundw
     case rel=>
      rw[List.append_assoc,HNX.out]at HO2
      first | exact⟨j+1,by omega,by go_num,HO2⟩ | ((repeat apply Exists.intro);exact⟨⟨j+1,by omega,by go_num,HO2⟩,rfl⟩)
     case measure=>simp[intOf];omega
    ·obtain rfl:j=8:=by omega
     have HO:=Yy (show Own w wr (.slice A3 m3 c3) R from by
      rw[HT.out];have h8:(SH.be8 (8*n)).take 8=SH.be8 (8*n):=rfl;rw[← h8];exact⟨A3,m3,c3,rfl,hm3,hown,hbel⟩)
     clear hm3 hown hbel;go_wp2;go_ret;exact HFin.out _ _ HO.out
end
end
end Go.Proofs.YtnlhkpmgbpfjmaaGreatDoor
