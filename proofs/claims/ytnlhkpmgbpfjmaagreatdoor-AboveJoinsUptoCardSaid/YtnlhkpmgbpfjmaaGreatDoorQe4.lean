import Derived.Test.YtnlhkpmgbpfjmaaGreatDoorQe2
/- What functions answer, part 4. -/
namespace Go.Proofs.YtnlhkpmgbpfjmaaGreatDoor
set_option linter.unusedVariables false
set_option linter.unusedSimpArgs false
set_option maxHeartbeats 16000000
set_option maxRecDepth 100000
section
section
open Go.RowKit WM
def WordsPost (zs:List Int) (w:World) (e:Ending) (w':World):Prop:=e=.returned (.agg (vals (SH.ws zs 64)))∧Below w.heap.size w w'
theorem words_or {zs:List Int} (hb:AllBytes zs) (k:Nat) (hk:k<64):bits .or .u32 ((((SH.gath zs k).getD (k / 4) 0:Nat):Int)*256 % 4294967296) (zs.getD k 0)=(((SH.gath zs k).getD (k / 4) 0*256+SH.z zs k:Nat):Int):=by
 have h:=SH.part_step hb k;have hz:=SH.z_lt hb k;rw[SH.gath_get zs k (k / 4) (by omega)];generalize SH.part zs (k / 4) (k - 4*(k / 4))=p at h;have hz0:zs.getD k 0=(SH.z zs k:Nat):=by
  unfold SH.z;rcases Nat.lt_or_ge k zs.length with h1 | h1
  ·have:=hb _ (List.getElem_mem h1);rw[List.getD,List.getElem?_eq_getElem h1,Option.getD_some];omega
  ·rw[List.getD,List.getElem?_eq_none h1];rfl
 rw[hz0,Int.emod_eq_of_lt (by omega) (by omega),or_eight _ _ (by omega) (by omega) (by omega) (by omega)];omega
theorem turned_still (x n:Nat) (w:World) (h:x<4294967296) (h1:1≤n) (h2:n≤31):
  Calls Tryz.prog 134 #[.int .u32 x,.int .i64 n] w fun e w'=>e=.returned (.int .u32 (SH.rotr x n:Nat))∧w'=w:=(turned_any x n w h h1 h2).mono fun e w' ⟨h1,h2⟩=>⟨h1,h2.symm⟩
theorem words_any {B:Nat} (A:Option Addr) (cap:Nat) (zs:List Int) (w:World) (h:Byt w B A zs) (hl:zs.length=64) (hb:AllBytes zs) (hB:B≤w.heap.size):
  Calls Tryz.prog 133 #[.slice A (64:Nat) cap] w (WordsPost zs w):=by
 obtain⟨b,off,rfl,hbB,hcell⟩:=h (fun e=>by rw[e]at hl;cases hl);have hz:=zeroW64;have HC:=Yy hcell;have HB:=Yy hb;have HL:=Yy hl;have HG0:=Yy (SH.gath_zero zs);have HP:Hid (∀ e w',e=.returned (.agg (vals (SH.ws zs 64)))→Below w.heap.size w w'→WordsPost zs w e w'):=Yy (fun _ _ h1 h2=>⟨h1,h2⟩);have hbw:b<w.heap.size:=by omega
 clear h hl hb hcell;generalize hZ:vals (List.replicate 64 0)=Z at hz;go_enter Tryz.func133,Tryz.ntmps133;go_wp2;go_loopw [11] (fun i wr=>∃ k:Nat,k≤64∧i=.int .i64 k∧Row wr (w.heap.size+1) 162 (SH.gath zs k)∧Row wr w.heap.size 162 (List.replicate 64 0)∧Below w.heap.size w wr) (fun i _=>64 - (intOf i).toNat)
 case atStart=>
  refine⟨0,by omega,rfl,?_,?_,((Below.refl _ _).alloc Nl _).alloc (by simp) _⟩
  ·have:=Row.new (w.alloc (.cells Z 162)) 162 (List.replicate 64 0);rw[hZ,World.size_alloc]at this;rw[HG0.out];exact this
  ·have:=(Row.new w 162 (List.replicate 64 0)).old (.cells Z 162);rw[hZ]at this;exact this
 case round=>
  obtain⟨k,hk,rfl,hr1,hr0,hbel⟩:=hrel;clear hz;by_cases hlt:k<64
  ·have hc:wr.cell? ⟨b,off+k,none⟩=some (.int .u8 (zs.getD k 0)):=(hbel.cell hbw).trans (HC.out k (by rw[HL.out];exact hlt));have hv:=words_or HB.out k hlt;have hn:=Yy (SH.gath_next HB.out hlt);have hz0:=all_get HB.out k;have hw8:=IntWalk.u32_in (zs.getD k 0) (by omega);have hxl:(SH.gath zs k).getD (k / 4) 0<4294967296:=by rw[SH.gath_get zs k _ (by omega)];exact SH.part_lt HB.out _ _
   have hq4:k / 4<16:=by omega
   have hx:=hr1.cell (j:=k / 4) (by rw[SH.gath_len];omega);have hf:=hr1.frozen (k / 4);have HS:=Yy (hr1.set (k / 4) ((SH.gath zs k).getD (k / 4) 0*256+SH.z zs k));rw[SH.gath_next HB.out hlt]at HS;have HR:=Yy (hr0.other (a:=⟨w.heap.size+1,k / 4,none⟩) (by simp only;omega) (.int .u32 (((SH.gath zs k).getD (k / 4) 0*256+SH.z zs k:Nat):Int)));have HBE:=Yy (hbel.setCell (p:=⟨w.heap.size+1,k / 4,none⟩) (by simp only;omega) (.int .u32 (((SH.gath zs k).getD (k / 4) 0*256+SH.z zs k:Nat):Int)));clear hr1 hr0 hbel hn;generalize (SH.gath zs k).getD (k / 4) 0*256+SH.z zs k=v at *;generalize (SH.gath zs k).getD (k / 4) 0=x at *;generalize zs.getD k 0=y at *;go_wp2;go_roundw
   case rel=>exact⟨k+1,by omega,by go_num,HS.out,HR.out,HBE.out⟩
   case measure=>simp[intOf];omega
  ·obtain rfl:k=64:=by omega
   have H64:=Yy (show SH.gath zs 64=SH.pad (SH.ws zs 16) by rw[SH.gath_all,SH.pad,SH.ws_len]);go_wp2;go_loopw [6] (fun i wr=>∃ n:Nat,16≤n∧n≤64∧i=.int .i64 n∧Row wr (w.heap.size+1) 162 (SH.pad (SH.ws zs n))∧Row wr w.heap.size 162 (List.replicate 64 0)∧Below w.heap.size w wr) (fun i _=>64 - (intOf i).toNat)
   case atStart=>exact⟨16,by omega,by omega,rfl,by rw[← H64.out];exact hr1,hr0,hbel⟩
   case round=>
    clear hr1 hr0 hbel;obtain⟨n,hn16,hn,rfl,hr1,hr0,hbel⟩:=hrel;by_cases hlt:n<64
    ·have hall:=SH.ws_all HB.out n;have hlen:=SH.ws_len zs n;have hpl:(SH.pad (SH.ws zs n)).length=64:=SH.pad_len (by omega);have c2:=hr1.cell (j:=n - 2) (by omega);have c15:=hr1.cell (j:=n - 15) (by omega);have c16:=hr1.cell (j:=n - 16) (by omega);have c7:=hr1.cell (j:=n - 7) (by omega);rw[SH.pad_get (by omega)]at c2 c15 c16 c7;have b2:=hall.get (n - 2);have b15:=hall.get (n - 15);have HN:=Yy (SH.ws_great zs hn16);unfold SH.wnext at HN;generalize (SH.ws zs n).getD (n - 2) 0=x2 at *;generalize (SH.ws zs n).getD (n - 15) 0=x15 at *;generalize (SH.ws zs n).getD (n - 7) 0=x7 at *;generalize (SH.ws zs n).getD (n - 16) 0=x16 at *;have e1:=u32_xor_nat _ _ (SH.rotr_lt 7 b15) (SH.rotr_lt 18 b15);have e2:=u32_xor_nat _ _ (SH.xor_lt (SH.rotr_lt 7 b15) (SH.rotr_lt 18 b15)) (show x15 / 8<4294967296 by omega);have e3:=u32_xor_nat _ _ (SH.rotr_lt 17 b2) (SH.rotr_lt 19 b2);have e4:=u32_xor_nat _ _ (SH.xor_lt (SH.rotr_lt 17 b2) (SH.rotr_lt 19 b2)) (show x2 / 1024<4294967296 by omega);rw[show ((x15 / 8:Nat):Int)=(x15:Int) / 8 by omega]at e2;rw[show ((x2 / 1024:Nat):Int)=(x2:Int) / 1024 by omega]at e4;have t7:=fun w=>turned_still x15 7 w b15 (by omega) (by omega);have t18:=fun w=>turned_still x15 18 w b15 (by omega) (by omega);have t17:=fun w=>turned_still x2 17 w b2 (by omega) (by omega);have t19:=fun w=>turned_still x2 19 w b2 (by omega) (by omega);have a1:=u32_sum x16 (SH.s0 x15);have a2:=u32_sum (SH.add x16 (SH.s0 x15)) x7;have a3:=u32_sum (SH.add (SH.add x16 (SH.s0 x15)) x7) (SH.s1 x2)
     change _=((SH.s0 x15:Nat):Int) at e2
     change _=((SH.s1 x2:Nat):Int) at e4
     generalize SH.add (SH.add (SH.add x16 (SH.s0 x15)) x7) (SH.s1 x2)=v3 at *;generalize SH.add (SH.add x16 (SH.s0 x15)) x7=v2 at *;generalize SH.add x16 (SH.s0 x15)=v1 at *;generalize SH.s0 x15=y0 at *;generalize SH.s1 x2=y1 at *;generalize SH.rotr x15 7 ^^^ SH.rotr x15 18=p1 at *;generalize SH.rotr x2 17 ^^^ SH.rotr x2 19=p2 at *;generalize SH.rotr x15 7=r7 at *;generalize SH.rotr x15 18=r18 at *;generalize SH.rotr x2 17=r17 at *;generalize SH.rotr x2 19=r19 at *;clear b2 b15;have T7:=Yy t7;have T18:=Yy t18;have T17:=Yy t17;have T19:=Yy t19;clear t7 t18 t17 t19 hall;go_wp2_with fail
     go_quiet (fail)
     go_wp2_with fail;obtain⟨m16,hm16⟩:∃ m,m=n - 16:=⟨_,rfl⟩;obtain⟨m7,hm7⟩:∃ m,m=n - 7:=⟨_,rfl⟩;have w16:IntKind.i64.wrap ((n:Int) - 16)=(m16:Int):=by rw[IntWalk.i64_in _ (by omega)];omega
     have w7:IntKind.i64.wrap ((n:Int) - 7)=(m7:Int):=by rw[IntWalk.i64_in _ (by omega)];omega
     have l16:(m16:Int)<64:=by omega
     have l7:(m7:Int)<64:=by omega
     have ln:(n:Int)<64:=by omega
     refine wp_still_at 29 (by kernel_rfl) (by kernel_rfl) fun W2 hW2=>?_;have k16:W2.cell? ⟨w.heap.size+1,m16,none⟩=some (.int .u32 (x16:Int)):=by rw[hW2,hm16];exact c16
     have k7:W2.cell? ⟨w.heap.size+1,m7,none⟩=some (.int .u32 (x7:Int)):=by rw[hW2,hm7];exact c7
     have q1:Row W2 (w.heap.size+1) 162 (SH.pad (SH.ws zs n)):=by rw[hW2];exact hr1
     have q0:Row W2 w.heap.size 162 (List.replicate 64 0):=by rw[hW2];exact hr0
     have q2:Below w.heap.size w W2:=by rw[hW2];exact (below_drewN hbel _).drew
     have hfz:=q1.frozen n;have HS:=Yy (q1.set n v3);rw[SH.pad_set hlen hlt,← HN.out]at HS;have HR:=Yy (q0.other (a:=⟨w.heap.size+1,n,none⟩) (by simp only;omega) (.int .u32 (v3:Int)));have HBE:=Yy (q2.setCell (p:=⟨w.heap.size+1,n,none⟩) (by simp only;omega) (.int .u32 (v3:Int)));obtain⟨old,hold⟩:∃ old,W2.cell? ⟨w.heap.size+1,n,none⟩=some old:=⟨_,q1.cell (by omega)⟩;clear hm16 hm7 hW2 c2 c15 c7 c16 hr1 hr0 hbel q1 q0 q2 hlen hpl;simp only[List.take_succ_cons,List.take_zero,List.drop_succ_cons,List.drop_zero]
     repeat still_step
     still_call (T7.out _)
     repeat still_step
     still_call (T18.out _)
     repeat still_step
     still_call (T17.out _)
     repeat still_step
     still_call (T19.out _)
     repeat still_step
     refine wpStill_nil ?_;go_wp2;go_roundw
     case rel=>((repeat apply Exists.intro);exact⟨⟨n+1,by omega,by omega,by go_num,HS.out,HR.out,HBE.out⟩,rfl⟩)
     case measure=>simp[intOf];omega
    ·obtain rfl:n=64:=by omega
     rw[SH.pad_full (SH.ws_len zs 64)]at hr1;have hwl:=SH.ws_len zs 64;generalize SH.ws zs 64=T at *;have hI:=Yy (show (Tryz.prog.info? 162).map (·.size)=some (vals T).size by rw[sizeW64,vals_size,hwl]);have hZT:=Yy (show (vals (List.replicate 64 0)).size=(vals T).size by rw[vals_size,vals_size,hwl];rfl);have hput:=Yy (hr0.put T);have hbp:=Yy (below_setRow hbel Nl (vals T));have h1:=Yy (vals_one T);unfold Row at hr1 hr0 hput;have Hr1:=Yy hr1;have Hr0:=Yy hr0;clear hr1 hr0 hbel hwl;generalize vals T=V at *;go_wp2_with (first | ((with_reducible refine wpList_load_row (o:=⟨some 69,.load 162 (.tmp 3),_,_,_,_⟩) ?_ 162 (.tmp 3) ?_ (w.heap.size+1) ?_ 162 V (0,0) _ Hr1.out Tryz.underlying162 ?_ hI.out ?_);rfl;rfl;rfl;rfl) | ((with_reducible refine wpList_store_row (o:=⟨none,.store 162 (.tmp 2) (.tmp 69),_,_,_,_⟩) ?_ 162 (.tmp 2) (.tmp 69) ?_ w.heap.size V ?_ ?_ 162 _ Hr0.out hI.out hZT.out h1.out ?_);rfl;rfl;rfl;rfl));exact bodyPost_ret (v:=.agg V) (by exact results_cell_row Tryz.results133 _ _ w.heap.size 162 V (0,0) _ rfl hput.out Tryz.underlying162 rfl hI.out) (by rfl) (HP.out _ _ rfl hbp.out)
end
section
open Go.RowKit WM
def BlockPost (s:SH.St) (zs:List Int) (w:World) (e:Ending) (w':World):Prop:=e=.returned (.agg (vals (SH.blk s zs).list))∧Below w.heap.size w w'
theorem put64 (w:World) (c c':Array Value):(w.alloc (.cells c 162)).setRow w.heap.size c'=w.alloc (.cells c' 162):=World.setRow_alloc_new w _ _ _
theorem turned_int (x:Nat) (n:Int) (w:World) (h:x<4294967296) (h1:1≤n) (h2:n≤31):
  Calls Tryz.prog 134 #[.int .u32 x,.int .i64 n] w fun e w'=>e=.returned (.int .u32 (SH.rotr x n.toNat:Nat))∧w'=w:=by
 have:=turned_still x n.toNat w h (by omega) (by omega);rw[show ((n.toNat:Nat):Int)=n by omega]at this;exact this
theorem u32_not {e:Nat} (h:e<4294967296):bits .xor .u32 IntKind.u32.max (e:Int)=((4294967295 - e:Nat):Int):=by
 rw[show IntKind.u32.max=4294967295 by rfl,u32_xor _ _ (by omega) (by omega) (by omega) (by omega)]
 congr 1
 have h2:(4294967295 - e) ^^^ e=4294967295:=by
  apply Nat.eq_of_testBit_eq;intro i;have hb:=Nat.testBit_two_pow_sub_succ (n:=32) h i;rw[Nat.testBit_xor,show 4294967295 - e=2 ^ 32 - (e+1) by omega,hb,show (4294967295:Nat)=2 ^ 32 - 1 by rfl,Nat.testBit_two_pow_sub_one];by_cases hi:i<32
  ·simp[hi]
  ·have:e.testBit i=false:=Nat.testBit_lt_two_pow (Nat.lt_of_lt_of_le h (by have:=Nat.pow_le_pow_right (n:=2) (by decide) (show 32≤i by omega);simpa using this));simp[hi,this]
 have h3:4294967295 ^^^ e=((4294967295 - e) ^^^ e) ^^^ e:=by rw[h2]
 rw[Int.toNat_natCast,show Int.toNat 4294967295=4294967295 by rfl,h3,Nat.xor_assoc,Nat.xor_self,Nat.xor_zero]
theorem round_vals (s:SH.St) (hs:s.ok) (k w:Nat):∃ p1 S1 q1 ef ne eg c q2 q3 t p2 S0 ab ac bc o1 m u na nd:Nat,
  (bits .xor .u32 (SH.rotr s.e 6:Nat) (SH.rotr s.e 11:Nat)=(p1:Int)∧bits .xor .u32 (p1:Int) (SH.rotr s.e 25:Nat)=(S1:Int)∧((s.h:Int)+(S1:Int)) % 4294967296=(q1:Int)∧bits .and .u32 (s.e:Int) (s.f:Int)=(ef:Int) ∧
   bits .xor .u32 IntKind.u32.max (s.e:Int)=(ne:Int)∧bits .and .u32 (ne:Int) (s.g:Int)=(eg:Int)∧bits .or .u32 (ef:Int) (eg:Int)=(c:Int)∧((q1:Int)+(c:Int)) % 4294967296=(q2:Int) ∧
   ((q2:Int)+(k:Int)) % 4294967296=(q3:Int)∧((q3:Int)+(w:Int)) % 4294967296=(t:Int)) ∧
  (bits .xor .u32 (SH.rotr s.a 2:Nat) (SH.rotr s.a 13:Nat)=(p2:Int)∧bits .xor .u32 (p2:Int) (SH.rotr s.a 22:Nat)=(S0:Int)∧bits .and .u32 (s.a:Int) (s.b:Int)=(ab:Int)∧bits .and .u32 (s.a:Int) (s.c:Int)=(ac:Int) ∧
   bits .and .u32 (s.b:Int) (s.c:Int)=(bc:Int)∧bits .or .u32 (ab:Int) (ac:Int)=(o1:Int)∧bits .or .u32 (o1:Int) (bc:Int)=(m:Int)∧((S0:Int)+(m:Int)) % 4294967296=(u:Int)) ∧
  (((t:Int)+(u:Int)) % 4294967296=(na:Int)∧((s.d:Int)+(t:Int)) % 4294967296=(nd:Int)) ∧
  SH.rnd s k w=⟨na,s.a,s.b,s.c,nd,s.e,s.f,s.g⟩:=by
 obtain⟨ha,hb,hc,hd,he,hf,hg,hh⟩:=hs;refine⟨_,_,_,_,_,_,_,_,_,_,_,_,_,_,_,_,_,_,_,_,
  ⟨u32_xor_nat _ _ (SH.rotr_lt _ he) (SH.rotr_lt _ he),u32_xor_nat _ _ (SH.xor_lt (SH.rotr_lt _ he) (SH.rotr_lt _ he)) (SH.rotr_lt _ he),u32_sum _ _,u32_and_nat _ _ he hf,u32_not he,u32_and_nat _ _ (by omega) hg,u32_or_nat _ _ (SH.and_lt he) (SH.and_lt (by omega)),u32_sum _ _,u32_sum _ _,u32_sum _ _⟩,
  ⟨u32_xor_nat _ _ (SH.rotr_lt _ ha) (SH.rotr_lt _ ha),u32_xor_nat _ _ (SH.xor_lt (SH.rotr_lt _ ha) (SH.rotr_lt _ ha)) (SH.rotr_lt _ ha),u32_and_nat _ _ ha hb,u32_and_nat _ _ ha hc,u32_and_nat _ _ hb hc,u32_or_nat _ _ (SH.and_lt ha) (SH.and_lt ha),u32_or_nat _ _ (SH.or_lt (SH.and_lt ha) (SH.and_lt ha)) (SH.and_lt hb),u32_sum _ _⟩,
  ⟨u32_sum _ _,u32_sum _ _⟩,rfl⟩
end
section
open Go.RowKit WM
def InBlock (s:SH.St) (W:List Nat) (w:World) (g:Nat) (wr:World):Prop:=
 Row wr w.heap.size 130 s.list∧Row wr (w.heap.size+1) 130 (List.replicate 8 0)∧Row wr g 162 W∧Laid wr∧Below w.heap.size w wr
theorem InBlock.drew {s:SH.St} {W:List Nat} {w:World} {g:Nat} {wr:World} (h:InBlock s W w g wr) (n:Nat):InBlock s W w g (wr.drewN n):=
 ⟨h.1,h.2.1,h.2.2.1,h.2.2.2.1,below_drewN h.2.2.2.2 n⟩
theorem index8_0 (r:SH.St) (w:World):(Instr.index 130 (.agg #[.int .u32 (r.a:Int),.int .u32 (r.b:Int),.int .u32 (r.c:Int),.int .u32 (r.d:Int),.int .u32 (r.e:Int),.int .u32 (r.f:Int),.int .u32 (r.g:Int),.int .u32 (r.h:Int)]) (.int .i64 ((0:Nat):Int))).run Tryz.prog w=.ok (.int .u32 (r.list.getD 0 0:Nat)) w:=by kernel_rfl
theorem index8_1 (r:SH.St) (w:World):(Instr.index 130 (.agg #[.int .u32 (r.a:Int),.int .u32 (r.b:Int),.int .u32 (r.c:Int),.int .u32 (r.d:Int),.int .u32 (r.e:Int),.int .u32 (r.f:Int),.int .u32 (r.g:Int),.int .u32 (r.h:Int)]) (.int .i64 ((1:Nat):Int))).run Tryz.prog w=.ok (.int .u32 (r.list.getD 1 0:Nat)) w:=by kernel_rfl
theorem index8_2 (r:SH.St) (w:World):(Instr.index 130 (.agg #[.int .u32 (r.a:Int),.int .u32 (r.b:Int),.int .u32 (r.c:Int),.int .u32 (r.d:Int),.int .u32 (r.e:Int),.int .u32 (r.f:Int),.int .u32 (r.g:Int),.int .u32 (r.h:Int)]) (.int .i64 ((2:Nat):Int))).run Tryz.prog w=.ok (.int .u32 (r.list.getD 2 0:Nat)) w:=by kernel_rfl
theorem index8_3 (r:SH.St) (w:World):(Instr.index 130 (.agg #[.int .u32 (r.a:Int),.int .u32 (r.b:Int),.int .u32 (r.c:Int),.int .u32 (r.d:Int),.int .u32 (r.e:Int),.int .u32 (r.f:Int),.int .u32 (r.g:Int),.int .u32 (r.h:Int)]) (.int .i64 ((3:Nat):Int))).run Tryz.prog w=.ok (.int .u32 (r.list.getD 3 0:Nat)) w:=by kernel_rfl
theorem index8_4 (r:SH.St) (w:World):(Instr.index 130 (.agg #[.int .u32 (r.a:Int),.int .u32 (r.b:Int),.int .u32 (r.c:Int),.int .u32 (r.d:Int),.int .u32 (r.e:Int),.int .u32 (r.f:Int),.int .u32 (r.g:Int),.int .u32 (r.h:Int)]) (.int .i64 ((4:Nat):Int))).run Tryz.prog w=.ok (.int .u32 (r.list.getD 4 0:Nat)) w:=by kernel_rfl
theorem index8_5 (r:SH.St) (w:World):(Instr.index 130 (.agg #[.int .u32 (r.a:Int),.int .u32 (r.b:Int),.int .u32 (r.c:Int),.int .u32 (r.d:Int),.int .u32 (r.e:Int),.int .u32 (r.f:Int),.int .u32 (r.g:Int),.int .u32 (r.h:Int)]) (.int .i64 ((5:Nat):Int))).run Tryz.prog w=.ok (.int .u32 (r.list.getD 5 0:Nat)) w:=by kernel_rfl
theorem index8_6 (r:SH.St) (w:World):(Instr.index 130 (.agg #[.int .u32 (r.a:Int),.int .u32 (r.b:Int),.int .u32 (r.c:Int),.int .u32 (r.d:Int),.int .u32 (r.e:Int),.int .u32 (r.f:Int),.int .u32 (r.g:Int),.int .u32 (r.h:Int)]) (.int .i64 ((6:Nat):Int))).run Tryz.prog w=.ok (.int .u32 (r.list.getD 6 0:Nat)) w:=by kernel_rfl
theorem index8_7 (r:SH.St) (w:World):(Instr.index 130 (.agg #[.int .u32 (r.a:Int),.int .u32 (r.b:Int),.int .u32 (r.c:Int),.int .u32 (r.d:Int),.int .u32 (r.e:Int),.int .u32 (r.f:Int),.int .u32 (r.g:Int),.int .u32 (r.h:Int)]) (.int .i64 ((7:Nat):Int))).run Tryz.prog w=.ok (.int .u32 (r.list.getD 7 0:Nat)) w:=by kernel_rfl
theorem index8 (r:SH.St) {k:Nat} (hk:k<8) (w:World):(Instr.index 130 (.agg #[.int .u32 (r.a:Int),.int .u32 (r.b:Int),.int .u32 (r.c:Int),.int .u32 (r.d:Int),.int .u32 (r.e:Int),.int .u32 (r.f:Int),.int .u32 (r.g:Int),.int .u32 (r.h:Int)]) (.int .i64 (k:Int))).run Tryz.prog w=.ok (.int .u32 (r.list.getD k 0:Nat)) w:=by
 have h:k=0∨k=1∨k=2∨k=3∨k=4∨k=5∨k=6∨k=7:=by omega
 rcases h with rfl | rfl | rfl | rfl | rfl | rfl | rfl | rfl
 ·exact index8_0 r w
 ·exact index8_1 r w
 ·exact index8_2 r w
 ·exact index8_3 r w
 ·exact index8_4 r w
 ·exact index8_5 r w
 ·exact index8_6 r w
 ·exact index8_7 r w
theorem list_len (s:SH.St):s.list.length=8:=rfl
theorem block_any {B:Nat} (s:SH.St) (hs:s.ok) (A:Option Addr) (cap:Nat) (zs:List Int) (w:World) (hlaid:Laid w) (h:Byt w B A zs) (hl:zs.length=64) (hb:AllBytes zs) (hB:B≤w.heap.size):
  Calls Tryz.prog 120 #[.agg (vals s.list),.slice A (64:Nat) cap] w (BlockPost s zs w):=by
 have hz:=zeroW64;have hz8:=zeroW8;have HW:=Yy (fun (w':World) (hw:Below w.heap.size w w')=>words_any A cap zs w' (h.below (hw.mono hB)) hl hb (Nat.le_trans hB hw.size));unfold WordsPost at HW;have HLA:=Yy hlaid;have HO:=Yy hs;have HP:Hid (∀ e w',e=.returned (.agg (vals (SH.blk s zs).list))→Below w.heap.size w w'→BlockPost s zs w e w'):=Yy (fun _ _ h1 h2=>⟨h1,h2⟩);have hwl:=SH.ws_len zs 64;have HE:=Yy (show SH.blk s zs=s.plus (SH.rnds s (SH.ws zs 64) 64) from rfl);clear h hl hb hlaid hs;generalize SH.ws zs 64=T at *;have hI:=Yy (show (Tryz.prog.info? 162).map (·.size)=some (vals T).size by rw[sizeW64,vals_size,hwl]);have hZT:=Yy (show (vals (List.replicate 64 0)).size=(vals T).size by rw[vals_size,vals_size,hwl];rfl);have h1:=Yy (vals_one T);have HWL:=Yy hwl;clear hwl;generalize hZ:vals (List.replicate 64 0)=Z at *;generalize hZ8:vals (List.replicate 8 0)=Z8 at *;generalize hVT:vals T=VT at *;generalize hV:vals s.list=V at *;go_enter Tryz.func120,Tryz.ntmps120;go_wp2_with fail;have hb0:Below w.heap.size w ((w.alloc (Obj.cells V 130)).alloc (Obj.cells Z8 130)):=((Below.refl _ _).alloc Nl _).alloc (by simp) _;refine (HW.out _ hb0).mono ?_;rintro e w1 ⟨rfl,hb1⟩;have hput:=Yy (put64 w1 Z VT);have hnew:=Yy (heap_alloc_new w1 (.cells Z 162));go_wp2_with (first | ((with_reducible refine wpList_store_row (o:=⟨none,.store 162 (.tmp 5) (.tmp 20),_,_,_,_⟩) ?_ 162 (.tmp 5) (.tmp 20) ?_ w1.heap.size VT ?_ ?_ 162 Z hnew.out hI.out hZT.out h1.out ?_);rfl;rfl;rfl;rfl;rw[hput.out]))
 have hin:InBlock s T w w1.heap.size (w1.alloc (.cells VT 162)):=by
  rw[World.size_alloc,World.size_alloc]at hb1;have hs1:=hb1.size;rw[World.size_alloc,World.size_alloc]at hs1;have hbw:Below w.heap.size w (w1.alloc (.cells VT 162)):=(hb0.trans (hb1.mono (by omega))).alloc (by omega) _;subst hVT hV hZ8;refine⟨?_,?_,Row.new w1 _ _,HLA.out.below hbw Nl,hbw⟩
  ·exact (((Row.new w 130 s.list).old _).below hb1 (by omega)).old _
  ·have:=Row.new (w.alloc (.cells (vals s.list) 130)) 130 (List.replicate 8 0);rw[World.size_alloc]at this;exact (this.below hb1 (by omega)).old _
 have Hin:=Yy hin;have Hg:Hid (w.heap.size+2≤w1.heap.size):=Yy (by have:=hb1.size;rw[World.size_alloc,World.size_alloc]at this;omega);clear hin hb1 hput hnew hb0 HW;generalize w1.alloc (.cells VT 162)=W1 at *;generalize w1.heap.size=g at *;have c0:W1.cell? ⟨w.heap.size,0,none⟩=some (.int .u32 (s.a:Int)):=Hin.out.1.cell (j:=0) (by simp[SH.St.list]);have c1:W1.cell? ⟨w.heap.size,1,none⟩=some (.int .u32 (s.b:Int)):=Hin.out.1.cell (j:=1) (by simp[SH.St.list]);have c2:W1.cell? ⟨w.heap.size,2,none⟩=some (.int .u32 (s.c:Int)):=Hin.out.1.cell (j:=2) (by simp[SH.St.list]);have c3:W1.cell? ⟨w.heap.size,3,none⟩=some (.int .u32 (s.d:Int)):=Hin.out.1.cell (j:=3) (by simp[SH.St.list]);have c4:W1.cell? ⟨w.heap.size,4,none⟩=some (.int .u32 (s.e:Int)):=Hin.out.1.cell (j:=4) (by simp[SH.St.list]);have c5:W1.cell? ⟨w.heap.size,5,none⟩=some (.int .u32 (s.f:Int)):=Hin.out.1.cell (j:=5) (by simp[SH.St.list]);have c6:W1.cell? ⟨w.heap.size,6,none⟩=some (.int .u32 (s.g:Int)):=Hin.out.1.cell (j:=6) (by simp[SH.St.list]);have c7:W1.cell? ⟨w.heap.size,7,none⟩=some (.int .u32 (s.h:Int)):=Hin.out.1.cell (j:=7) (by simp[SH.St.list])
 go_quiet (fail)
 go_wp2_with fail
 go_quiet (fail)
 go_wp2_with fail;clear c0 c1 c2 c3 c4 c5 c6 c7;go_loopw [6,7,8,9,10,11,12,13,37] (fun xa xb xc xd xe xf xg xh i wr=>∃ k:Nat,k≤64∧i=.int .i64 k∧xa=.int .u32 ((SH.rnds s T k).a:Int)∧xb=.int .u32 ((SH.rnds s T k).b:Int)∧xc=.int .u32 ((SH.rnds s T k).c:Int)∧xd=.int .u32 ((SH.rnds s T k).d:Int)∧xe=.int .u32 ((SH.rnds s T k).e:Int)∧xf=.int .u32 ((SH.rnds s T k).f:Int)∧xg=.int .u32 ((SH.rnds s T k).g:Int)∧xh=.int .u32 ((SH.rnds s T k).h:Int)∧InBlock s T w g wr) (fun _ _ _ _ _ _ _ _ i _=>64 - (intOf i).toNat)
 case atStart=>
  first | exact⟨0,by omega,rfl,rfl,rfl,rfl,rfl,rfl,rfl,rfl,rfl,(Hin.out.drew _).drew _⟩ | exact⟨0,by omega,rfl,rfl,rfl,rfl,rfl,rfl,rfl,rfl,rfl,Hin.out.drew _⟩
 case round=>
  clear Hin;obtain⟨k,hk,rfl,rfl,rfl,rfl,rfl,rfl,rfl,rfl,rfl,hin⟩:=hrel;have hok:=SH.rnds_ok T HO.out k;by_cases hlt:k<64
  ·have ck:wr.cell? ⟨1,k,none⟩=some (.int .u32 (SH.K.getD k 0:Nat)):=hin.2.2.2.1.2.1 k hlt;have cw:wr.cell? ⟨g,k,none⟩=some (.int .u32 (T.getD k 0:Nat)):=hin.2.2.1.cell (by rw[HWL.out];exact hlt);obtain⟨p1,S1,q1,ef,ne,eg,c,q2,q3,t,p2,S0,ab,ac,bc,o1,m,u,na,nd,⟨e1,e2,e3,e4,e5,e6,e7,e8,e9,e10⟩,⟨f1,f2,f3,f4,f5,f6,f7,f8⟩,⟨f9,f10⟩,hnext⟩:=round_vals (SH.rnds s T k) hok (SH.K.getD k 0) (T.getD k 0);have HN:=Yy (show SH.rnds s T (k+1)=_ from hnext);have Hin:=Yy hin;have tE:=Yy (fun (n:Int) (w:World)=>turned_int (SH.rnds s T k).e n w hok.2.2.2.2.1);have tA:=Yy (fun (n:Int) (w:World)=>turned_int (SH.rnds s T k).a n w hok.1);clear hok hnext hin;generalize SH.K.getD k 0=Kk at *;generalize T.getD k 0=Wk at *;generalize (SH.rnds s T k).a=sa at *;generalize (SH.rnds s T k).b=sb at *;generalize (SH.rnds s T k).c=sc at *;generalize (SH.rnds s T k).d=sd at *;generalize (SH.rnds s T k).e=se at *;generalize (SH.rnds s T k).f=sf at *;generalize (SH.rnds s T k).g=sg at *;generalize (SH.rnds s T k).h=sh at *;have HA:=Yy (show (((q1:Int)+(c:Int)+(Kk:Int)+(Wk:Int)) % 4294967296+(u:Int)) % 4294967296=(na:Int) by omega);have HD:=Yy (show ((sd:Int)+((q1:Int)+(c:Int)+(Kk:Int)+(Wk:Int)) % 4294967296) % 4294967296=(nd:Int) by omega);go_wp2_with fail
   go_quiet (refine Calls.quiet_of_same (tE.out _ _ (by decide) (by decide)))
   go_wp2_with fail;refine (tA.out _ _ (by decide) (by decide)).mono ?_;rintro e w1 ⟨rfl,rfl⟩;go_wp2_with fail;refine (tA.out _ _ (by decide) (by decide)).mono ?_;rintro e w1 ⟨rfl,rfl⟩;go_wp2_with fail;refine (tA.out _ _ (by decide) (by decide)).mono ?_;rintro e w1 ⟨rfl,rfl⟩;go_wp2;go_roundw
   case rel=>
    exact⟨k+1,by omega,by go_num,by rw[HN.out,HA.out],by rw[HN.out],by rw[HN.out],by rw[HN.out],by rw[HN.out,HD.out],by rw[HN.out],by rw[HN.out],by rw[HN.out],Hin.out.drew _⟩
   case measure=>simp[intOf];omega
  ·obtain rfl:k=64:=by omega
   generalize SH.rnds s T 64=r at *;have hz8':∀ w9:World,(zeroValue 130).run Tryz.prog w9=.ok (.agg #[.int .u32 0,.int .u32 0,.int .u32 0,.int .u32 0,.int .u32 0,.int .u32 0,.int .u32 0,.int .u32 0]) w9:=fun w9=>zeroW8 w9;clear hz8 hz;obtain⟨hr0,hr1,_,_,hbel⟩:=hin;have Hr0:=Yy hr0;have Hr1:=Yy hr1;have Hbel:=Yy hbel;clear hr0 hr1 hbel;go_wp2_with fail;go_loopw [109] (fun i wr=>∃ k:Nat,k≤8∧i=.int .i64 k∧Row wr w.heap.size 130 (SH.mix s r k)∧Row wr (w.heap.size+1) 130 (List.replicate 8 0)∧Below w.heap.size w wr) (fun i _=>8 - (intOf i).toNat)
   case atStart=>exact⟨0,by omega,rfl,by rw[SH.mix_zero];exact Hr0.out,Hr1.out,Hbel.out⟩
   case round=>
    clear Hr0 Hr1 Hbel;obtain⟨j,hj,rfl,hr0,hr1,hbel⟩:=hrel;by_cases hlt:j<8
    ·have hix:=index8 r hlt;have hc:=hr0.cell (j:=j) (by rw[SH.mix_len];exact hlt);rw[SH.mix_get s r hlt]at hc;have hf:=hr0.frozen j;have hsum:=u32_sum (s.list.getD j 0) (r.list.getD j 0);have HS:=Yy (hr0.set j (SH.add (s.list.getD j 0) (r.list.getD j 0)));rw[SH.mix_next s r hlt]at HS;have HR:=Yy (hr1.other (a:=⟨w.heap.size,j,none⟩) (by simp only;omega) (.int .u32 (SH.add (s.list.getD j 0) (r.list.getD j 0):Nat)));have HBE:=Yy (hbel.setCell (p:=⟨w.heap.size,j,none⟩) Nl (.int .u32 (SH.add (s.list.getD j 0) (r.list.getD j 0):Nat)));clear hr0 hr1 hbel;generalize SH.add (s.list.getD j 0) (r.list.getD j 0)=v at *;generalize s.list.getD j 0=x at *;generalize r.list.getD j 0=y at *;go_wp2;go_roundw
     case rel=>first | exact⟨j+1,by omega,by go_num,HS.out,HR.out,HBE.out⟩ | ((repeat apply Exists.intro);exact⟨⟨j+1,by omega,by go_num,HS.out,HR.out,HBE.out⟩,rfl⟩)
     case measure=>simp[intOf];omega
    ·obtain rfl:j=8:=by omega
     rw[SH.mix_all]at hr0;rw[← HE.out]at hr0;have hI8:=Yy (show (Tryz.prog.info? 130).map (·.size)=some (vals (SH.blk s zs).list).size by rw[sizeW8,vals_size,list_len]);have hZT8:=Yy (show (vals (List.replicate 8 0)).size=(vals (SH.blk s zs).list).size by rw[vals_size,vals_size,list_len,List.length_replicate]);have hput:=Yy (hr1.put (SH.blk s zs).list);have hbp:=Yy (below_setRow hbel (g:=w.heap.size+1) (by omega) (vals (SH.blk s zs).list));have h18:=Yy (vals_one (SH.blk s zs).list);unfold Row at hr1 hr0 hput;have Hr1:=Yy hr1;have Hr0:=Yy hr0;clear hr1 hr0 hbel;generalize vals (SH.blk s zs).list=R at *;go_wp2_with (first | ((with_reducible refine wpList_load_row (o:=⟨some 120,.load 130 (.tmp 2),_,_,_,_⟩) ?_ 130 (.tmp 2) ?_ w.heap.size ?_ 130 R (0,0) _ Hr0.out Tryz.underlying130 ?_ hI8.out ?_);rfl;rfl;rfl;rfl) | ((with_reducible refine wpList_store_row (o:=⟨none,.store 130 (.tmp 4) (.tmp 120),_,_,_,_⟩) ?_ 130 (.tmp 4) (.tmp 120) ?_ (w.heap.size+1) R ?_ ?_ 130 _ Hr1.out hI8.out hZT8.out h18.out ?_);rfl;rfl;rfl;rfl));exact bodyPost_ret (v:=.agg R) (by exact results_cell_row Tryz.results120 _ _ (w.heap.size+1) 130 R (0,0) _ rfl hput.out Tryz.underlying130 rfl hI8.out) (by rfl) (HP.out _ _ rfl hbp.out)
end
section
open Go.RowKit WM
def BlocksPost (s:SH.St) (zs:List Int) (w:World) (e:Ending) (w':World):Prop:=e=.returned (.agg (vals (SH.all s zs).list))∧Below w.heap.size w w'
theorem byt_part {w:World} {B b off:Nat} {zs:List Int} (hbB:b<B) (hc:∀ i,i<zs.length→w.cell? ⟨b,off+i,none⟩=some (.int .u8 (zs.getD i 0))) (l n:Nat):
  Byt w B (some ⟨b,off+l,none⟩) ((zs.drop l).take n):=fun _=>by
 refine⟨b,off+l,rfl,hbB,fun i hi=>?_⟩;have hi':i<n∧l+i<zs.length:=by simp[Nat.lt_min]at hi;omega
 rw[Nat.add_assoc,hc (l+i) hi'.2];simp[List.getD,hi'.1]
theorem size8 (s:SH.St):(Tryz.prog.info? 130).map (·.size)=some (vals s.list).size:=by rw[sizeW8,vals_size,list_len]
theorem blocks_any {B:Nat} (s:SH.St) (hs:s.ok) (A:Option Addr) (len cap:Nat) (zs:List Int) (w:World) (hlaid:Laid w) (h:Byt w B A zs) (hl:zs.length=len) (h64:len % 64=0) (hc:len≤cap) (hcm:cap≤maxLen) (hb:AllBytes zs) (hB:B≤w.heap.size):
  Calls Tryz.prog 102 #[.agg (vals s.list),.slice A len cap] w (BlocksPost s zs w):=by
 unfold maxLen at hcm;have hz8:=zeroW8;have HY:=Yy h;have HB:=Yy hb;have HL:=Yy hl;have HLA:=Yy hlaid;have HO:=Yy hs;have H64:=Yy h64;have HC:=Yy hc;have HCM:=Yy hcm;have hlen:len≤9223372036854775807:=by omega
 have HP:Hid (∀ e w',e=.returned (.agg (vals (SH.all s zs).list))→Below w.heap.size w w'→BlocksPost s zs w e w'):=Yy (fun _ _ h1 h2=>⟨h1,h2⟩);clear h hl hb hlaid hs h64 hc hcm;generalize hZ8:vals (List.replicate 8 0)=Z8 at *;generalize hV:vals s.list=V at *;go_enter Tryz.func102,Tryz.ntmps102;go_wp2_with fail;go_loopw [5] (fun i wr=>∃ n m:Nat,m=64*n∧m≤len∧i=.int .i64 (m:Int)∧Row wr w.heap.size 130 (SH.blocks s zs n).list∧Row wr (w.heap.size+1) 130 (List.replicate 8 0)∧Below w.heap.size w wr) (fun i _=>len - (intOf i).toNat)
 case atStart=>
  subst hZ8 hV;refine⟨0,0,rfl,by omega,rfl,(Row.new w _ _).old _,?_,((Below.refl _ _).alloc Nl _).alloc (by simp) _⟩;have:=Row.new (w.alloc (.cells (vals s.list) 130)) 130 (List.replicate 8 0);rw[World.size_alloc]at this;exact this
 case round=>
  obtain⟨n,m,hm,hmle,rfl,hr0,hr1,hbel⟩:=hrel;by_cases hlt:m<len
  ·have hm64:m+64≤len:=by have:=H64.out;omega
   have hne:zs≠[]:=fun e=>by have:=HL.out;rw[e]at this;simp at this;omega
   obtain⟨b,off,rfl,hbB,hcell⟩:=HY.out hne;have hsl:=fun w9=>sl_lh b off len cap m (m+64) (by omega) (by have:=HC.out;omega) (by have:=HC.out;omega) (m:Int) ((m:Int)+64) rfl (by omega) w9;rw[Nat.add_sub_cancel_left]at hsl;have hw64:IntKind.i64.wrap ((m:Int)+64)=(m:Int)+64:=IntWalk.i64_in _ (by omega);have HM:=Yy hm;have Hc:=Yy hcell;clear hm hcell hne;go_wp2_with fail;refine wp_still_at 6 (by kernel_rfl) (by kernel_rfl) fun W2 hW2=>?_;have q0:Row W2 w.heap.size 130 (SH.blocks s zs n).list:=by rw[hW2];exact hr0
   have q1:Row W2 (w.heap.size+1) 130 (List.replicate 8 0):=by rw[hW2];exact hr1
   have q2:Below w.heap.size w W2:=by rw[hW2];exact hbel.drew
   clear hW2 hr0 hr1 hbel;simp only[List.take_succ_cons,List.take_zero,List.drop_succ_cons,List.drop_zero];refine wpStill_load_row (o:=⟨some 12,.load 130 (.tmp 2),_,_,_,_⟩) rfl _ _ rfl w.heap.size (by rfl) 130 _ (0,0) _ q0 Tryz.underlying130 rfl (size8 _) ?_;have Q0:=Yy q0;have Q1:=Yy q1;have Q2:=Yy q2;have hz64:((zs.drop m).take 64).length=64:=by rw[List.length_take,List.length_drop,HL.out];omega
   have HK:=Yy (block_any (SH.blocks s zs n) (SH.blocks_ok zs HO.out n) (some ⟨b,off+m,none⟩) (cap - m) ((zs.drop m).take 64) W2 (HLA.out.below q2 Nl) (byt_part hbB (fun i hi=>(q2.cell (by simp only;omega)).trans (Hc.out i hi)) m 64) hz64 (all_take (all_drop HB.out m) 64) (Nat.le_trans hB q2.size));unfold BlockPost at HK;have HN:=Yy (show SH.blocks s zs (n+1)=SH.blk (SH.blocks s zs n) ((zs.drop m).take 64) by rw[SH.blocks,HM.out]);clear q0 q1 q2 hz64;have hI:=Yy (size8 (SH.blk (SH.blocks s zs n) ((zs.drop m).take 64)));have hZT:=Yy (show (vals (SH.blocks s zs n).list).size=(vals (SH.blk (SH.blocks s zs n) ((zs.drop m).take 64)).list).size by rw[vals_size,vals_size,list_len,list_len]);have h1:=Yy (vals_one (SH.blk (SH.blocks s zs n) ((zs.drop m).take 64)).list);have HR:=Yy (fun (w1:World) (hb:Below W2.heap.size W2 w1)=>(Q0.out.below hb Q0.out.lt).put (SH.blk (SH.blocks s zs n) ((zs.drop m).take 64)).list);have HR0:=Yy (fun (w1:World) (hb:Below W2.heap.size W2 w1)=>Q0.out.below hb Q0.out.lt);have HR1:=Yy (fun (w1:World) (hb:Below W2.heap.size W2 w1)=>(Q1.out.below hb Q1.out.lt).putOther (k:=w.heap.size) (by omega) (vals (SH.blk (SH.blocks s zs n) ((zs.drop m).take 64)).list));have HBE:=Yy (fun (w1:World) (hb:Below W2.heap.size W2 w1)=>below_setRow (Q2.out.trans (hb.mono Q2.out.size)) Nl (vals (SH.blk (SH.blocks s zs n) ((zs.drop m).take 64)).list));rw[← HN.out]at HK hI hZT h1 HR HR1 HBE;unfold Row at HR0;obtain⟨r1,hr1e⟩:∃ r1,SH.blocks s zs (n+1)=r1:=⟨_,rfl⟩;have HN':=Yy hr1e
   rw[hr1e]at HK hI hZT h1 HR HR1 HBE;clear hr1e HN;generalize (SH.blocks s zs n)=r0 at *;generalize vals r0.list=V0 at *;generalize hV1:vals r1.list=V1 at *
   repeat still_step
   refine wpStill_nil ?_;go_wp2_with fail;refine HK.out.mono ?_;rintro e w1 ⟨rfl,hb1⟩;have g0:=Yy (HR0.out w1 hb1);go_wp2_with (first | ((with_reducible refine wpList_store_row (o:=⟨none,.store 130 (.tmp 2) (.tmp 18),_,_,_,_⟩) ?_ 130 (.tmp 2) (.tmp 18) ?_ w.heap.size V1 ?_ ?_ 130 V0 g0.out hI.out hZT.out h1.out ?_);rfl;rfl;rfl;rfl));go_roundw
   case rel=>
    subst hV1;refine⟨n+1,m+64,by rw[HM.out];omega,hm64,by go_num,?_,HR1.out w1 hb1,HBE.out w1 hb1⟩;rw[HN'.out];exact HR.out w1 hb1
   case measure=>simp[intOf];omega
  ·obtain rfl:m=len:=by omega
   have he:SH.blocks s zs n=SH.all s zs:=by rw[SH.all,HL.out,hm,Nat.mul_div_cancel_left _ (by decide)]
   rw[he]at hr0;have hI8:=Yy (size8 (SH.all s zs));have hZT8:=Yy (show (vals (List.replicate 8 0)).size=(vals (SH.all s zs).list).size by rw[vals_size,vals_size,list_len,List.length_replicate]);have hput:=Yy (hr1.put (SH.all s zs).list);have hbp:=Yy (below_setRow hbel (g:=w.heap.size+1) (by omega) (vals (SH.all s zs).list));have h18:=Yy (vals_one (SH.all s zs).list);unfold Row at hr1 hr0 hput;have Hr1:=Yy hr1;have Hr0:=Yy hr0;clear hr1 hr0 hbel he hm;generalize vals (SH.all s zs).list=R at *;go_wp2_with (first | ((with_reducible refine wpList_load_row (o:=⟨some 19,.load 130 (.tmp 2),_,_,_,_⟩) ?_ 130 (.tmp 2) ?_ w.heap.size ?_ 130 R (0,0) _ Hr0.out Tryz.underlying130 ?_ hI8.out ?_);rfl;rfl;rfl;rfl) | ((with_reducible refine wpList_store_row (o:=⟨none,.store 130 (.tmp 4) (.tmp 19),_,_,_,_⟩) ?_ 130 (.tmp 4) (.tmp 19) ?_ (w.heap.size+1) R ?_ ?_ 130 _ Hr1.out hI8.out hZT8.out h18.out ?_);rfl;rfl;rfl;rfl));exact bodyPost_ret (v:=.agg R) (by exact results_cell_row Tryz.results102 _ _ (w.heap.size+1) 130 R (0,0) _ rfl hput.out Tryz.underlying130 rfl hI8.out) (by rfl) (HP.out _ _ rfl hbp.out)
end
end
end Go.Proofs.YtnlhkpmgbpfjmaaGreatDoor
