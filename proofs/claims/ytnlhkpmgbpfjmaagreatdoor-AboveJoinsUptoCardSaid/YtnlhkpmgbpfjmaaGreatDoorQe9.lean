import Derived.Test.YtnlhkpmgbpfjmaaGreatDoorQe8
/- What functions answer, part 9. -/
namespace Go.Proofs.YtnlhkpmgbpfjmaaGreatDoor
set_option linter.unusedVariables false
set_option linter.unusedSimpArgs false
set_option maxHeartbeats 16000000
set_option maxRecDepth 100000
section
open Go.RowKit WM
def KId:Kind (List Int):={ n:=16,pos:=by decide,cs:=fun z=>z.map (Value.int .u8),d:=[],ok:=fun _ z=>z.length=16∧AllBytes z,len:=fun h=>(List.length_map _).trans h.1,one:=byte_ones,below:=fun h _=>h}
theorem infoIdM:(Tryz.prog.info? 31).map (·.size)=some 16:=by kernel_rfl
theorem load_idM {w:World} {b o:Nat} {z:List Int} (h:KId.at w b o z) (hz:z.length=16):(loadVar 31 ⟨b,o,none⟩).run Tryz.prog w=.ok (.agg (bvals z)) w:=
 Kind.at_load (K:=KId) h (by show (z.map (Value.int .u8)).length=16;rw[List.length_map,hz]) Tryz.underlying31 rfl infoIdM
theorem guardIdM:Tryz.prog.eqGuardType Tryz.prog.depth 31=false:=by kernel_rfl
theorem guardStM:Tryz.prog.eqGuardType Tryz.prog.depth 33=false:=by kernel_rfl
theorem eq_st {n r m s:Int} (w:World):(Op.equalIn 10000 33 (.agg #[.int .i64 n,.int .i64 r]) (.agg #[.int .i64 m,.int .i64 s])).run Tryz.prog w=.ok (decide (n=m∧r=s)) w:=by
 by_cases h:n=m∧r=s
 ·rw[decide_eq_true h];obtain⟨rfl,rfl⟩:=h;go_simp
 ·rw[decide_eq_false h];exact st_ne h w
section
variable {w:World} {b o:Nat}
theorem en_c0 {x:EnA} (h:KEn.at w b o x):w.cell? ⟨b,o,none⟩=some (.int .i64 x.e.no):=(h 0 (by decide)).trans rfl
theorem en_c1 {x:EnA} (h:KEn.at w b o x):w.cell? ⟨b,o+1,none⟩=some (.int .i64 x.e.n):=(h 1 (by decide)).trans rfl
theorem en_c2 {x:EnA} (h:KEn.at w b o x):w.cell? ⟨b,o+2,none⟩=some (.int .i64 x.e.r):=(h 2 (by decide)).trans rfl
theorem en_c3 {x:EnA} (h:KEn.at w b o x):w.cell? ⟨b,o+3,none⟩=some (.int .i64 x.e.len):=(h 3 (by decide)).trans rfl
theorem en_dig {x:EnA} (h:KEn.at w b o x) (hx:x.e.ds.length=32):KDig.at w b (o+4) x.e.ds:=fun j hj=>by
 have hj:j<32:=hj;have h1:=h (j+4) (show j+4<37 by omega);rw[show o+(j+4)=o+4+j by omega]at h1;rw[h1];show (Value.int .i64 x.e.no::.int .i64 x.e.n::.int .i64 x.e.r::.int .i64 x.e.len::(x.e.ds.map (Value.int .u8)++[.slice x.A x.e.bs.length x.c]))[j+4]?=_;simp only[List.getElem?_cons_succ];exact List.getElem?_append_left (by rw[List.length_map,hx];exact hj)
theorem en_c36 {x:EnA} (h:KEn.at w b o x) (hx:x.e.ds.length=32):w.cell? ⟨b,o+36,none⟩=some (.slice x.A x.e.bs.length x.c):=by
 rw[h 36 (by decide)];show (Value.int .i64 x.e.no::.int .i64 x.e.n::.int .i64 x.e.r::.int .i64 x.e.len::(x.e.ds.map (Value.int .u8)++[.slice x.A x.e.bs.length x.c]))[36]?=_;simp only[List.getElem?_cons_succ];rw[List.getElem?_append_right (by rw[List.length_map,hx];decide),List.length_map,hx]
 rfl
theorem ln_id {x:LnA} (h:KLn.at w b o x) (hx:x.z.length=16):KId.at w b o x.z:=fun j hj=>by
 have hj:j<16:=hj;rw[h j (show j<19 by omega)];exact List.getElem?_append_left (by rw[List.length_map,hx];exact hj)
theorem ln_cR {x:LnA} (h:KLn.at w b o x) (hx:x.z.length=16) (i:Nat) (hi:i<3):w.cell? ⟨b,o+(16+i),none⟩=[Value.int .i64 x.n,.int .i64 x.r,.slice x.A x.es.length x.c][i]?:=by
 rw[h (16+i) (show 16+i<19 by omega)];show (x.z.map (Value.int .u8)++[Value.int .i64 x.n,.int .i64 x.r,.slice x.A x.es.length x.c])[16+i]?=_;rw[List.getElem?_append_right (by rw[List.length_map,hx];omega),List.length_map,hx,Nat.add_sub_cancel_left]
theorem ln_c16 {x:LnA} (h:KLn.at w b o x) (hx:x.z.length=16):w.cell? ⟨b,o+16,none⟩=some (.int .i64 x.n):=ln_cR h hx 0 (by decide)
theorem ln_c17 {x:LnA} (h:KLn.at w b o x) (hx:x.z.length=16):w.cell? ⟨b,o+17,none⟩=some (.int .i64 x.r):=ln_cR h hx 1 (by decide)
theorem ln_c18 {x:LnA} (h:KLn.at w b o x) (hx:x.z.length=16):w.cell? ⟨b,o+18,none⟩=some (.slice x.A x.es.length x.c):=ln_cR h hx 2 (by decide)
end
theorem wpList_eqlM {P:Program} {ops:Array Oper} {rest:List Oper} {o:Oper} {a:Act} {w:World} {Q:Exit→Act→World→Prop} (hw:Region.wanted o (yielded ops a.tmps)=true) (t:TypeId) (x y:Operand) (u:TypeId) (ho:o.op=.binOp .eql t x y u)
  {xs ys:Array Value} (hx:a.eval x=.agg xs) (hy:a.eval y=.agg ys) (hm:P.eqGuardType P.depth t=false) {b:Bool} (h1:(Op.equalIn 10000 t (.agg xs) (.agg ys)).run P w=.ok b w)
  (h:wpList P ops Q rest (a.put o.dst (.bool b)) w):wpList P ops Q (o::rest) a w:=
 BigFrame.wpList_want hw fun _ hK=>by
  unfold Oper.wp;rw[exec_eql_at t x y u ho hx hy hm h1];exact hK _ _ h
theorem wpList_neqM {P:Program} {ops:Array Oper} {rest:List Oper} {o:Oper} {a:Act} {w:World} {Q:Exit→Act→World→Prop} (hw:Region.wanted o (yielded ops a.tmps)=true) (t:TypeId) (x y:Operand) (u:TypeId) (ho:o.op=.binOp .neq t x y u)
  {xs ys:Array Value} (hx:a.eval x=.agg xs) (hy:a.eval y=.agg ys) (hm:P.eqGuardType P.depth t=false) {b:Bool} (h1:(Op.equalIn 10000 t (.agg xs) (.agg ys)).run P w=.ok b w)
  (h:wpList P ops Q rest (a.put o.dst (.bool !b)) w):wpList P ops Q (o::rest) a w:=
 BigFrame.wpList_want hw fun _ hK=>by
  unfold Oper.wp;rw[exec_neq_at t x y u ho hx hy hm h1];exact hK _ _ h
def MnAt (w:World) (b:Nat) (m:MnA):Prop:=w.heap[b]?=some (.cells m.cs.toArray 29)
theorem MnAt.lt {w:World} {b:Nat} {m:MnA} (h:MnAt w b m):b<w.heap.size:=(Array.getElem?_eq_some_iff.1 h).1
theorem MnAt.below {w w':World} {b B:Nat} {m:MnA} (h:MnAt w b m) (hb:Below B w w') (hB:b<B):MnAt w' b m:=(hb.block b hB).trans h
theorem MnAt.c32 {w:World} {b:Nat} {m:MnA} (h:MnAt w b m) (hx:m.base.length=32):w.cell? ⟨b,32,none⟩=some (.slice m.A m.ls.length m.c):=by
 rw[cell_of_row _ _ _ _ _ _ h,List.getElem?_toArray];show (m.base.map (Value.int .u8)++[.slice m.A m.ls.length m.c])[32]?=_;rw[List.getElem?_append_right (by rw[List.length_map,hx];decide),List.length_map,hx]
 rfl
end
section
open Go.RowKit WM
theorem enOk_eq (n r last:Int) (e:En):enOk n r last e=(may e.n e.r && (stLess n r e.n e.r && (decide (last<e.no) && (decide (e.no<8) && (decide (0≤e.len) && (decide (e.len≤200) && (if e.len<24 then decide ((e.bs.length:Int)=0) else decide ((e.bs.length:Int)=e.len / 8)))))))):=by
 unfold enOk;rw[Bool.eq_iff_iff];simp only[Bool.and_eq_true,decide_eq_true_eq];by_cases h:e.len<24
 ·rw[if_pos h,if_pos h];simp only[decide_eq_true_eq]
  constructor
  ·rintro⟨⟨⟨a,b⟩,c,d,e,f⟩,g⟩;exact⟨a,b,c,d,e,f,by omega⟩
  ·rintro⟨a,b,c,d,e,f,g⟩;exact⟨⟨⟨a,b⟩,c,d,e,f⟩,by omega⟩
 ·rw[if_neg h,if_neg h];simp only[decide_eq_true_eq]
  constructor
  ·rintro⟨⟨⟨a,b⟩,c,d,e,f⟩,g⟩;exact⟨a,b,c,d,e,f,g⟩
  ·rintro⟨a,b,c,d,e,f,g⟩;exact⟨⟨⟨a,b⟩,c,d,e,f⟩,g⟩
end
section
open Go.RowKit WM
theorem MnAt.new (w:World) (m:MnA):MnAt (w.alloc (.cells m.cs.toArray 29)) w.heap.size m:=heap_alloc_new w _
end
section
section
open Go.RowKit WM
def rfind (fs:List Fld) (no:Int):Option Cel:=(fs.find? fun f=>decide (f.no=no)).map (·.c)
theorem rfind_nil (no:Int):rfind [] no=none:=rfl
theorem rfind_cons (f:Fld) (fs:List Fld) (no:Int):rfind (f::fs) no=if f.no=no then some f.c else rfind fs no:=by
 by_cases h:f.no=no<;>simp[rfind,h]
theorem rfind_drop {fs:List Fld} {no:Int} {k:Nat} (hk:k<fs.length):rfind (fs.drop k) no=if (fs.getD k fld0).no=no then some (fs.getD k fld0).c else rfind (fs.drop (k+1)) no:=by
 rw[List.drop_eq_getElem_cons hk,rfind_cons];simp[List.getD,List.getElem?_eq_getElem hk]
def FindPost (w:World) (o:Option Cel) (e:Ending) (w':World):Prop:=e=.returned (.tuple #[(o.getD cel00).v,.bool o.isSome])∧Below w.heap.size w w'
theorem find_any (z:List Int) (n r:Int) (A:Option Addr) (len c:Nat) (fs:List Fld) (no:Int) (w:World) (hz:z.length=16) (hl:fs.length=len) (h:FsAt w A c fs):
  Calls Tryz.prog 26 #[rv z n r (.slice A len c),.int .i64 no] w (FindPost w (rfind fs no)):=by
 obtain⟨hc1,hc2,hc3,hcell⟩:=h;simp only[maxLen]at hc2;have HL:=Yy hl;have HC:=Yy hcell;have S0:=(RcAt.new w hz n r (.slice A len c)).old (.cells #[.int .i64 0,.int .i64 0,.string ⟨#[]⟩] 38);have c18:=S0.c18;have S1:=ClAt.new (w.alloc (.cells (rcells z n r (.slice A len c)) 36)) cel00;rw[World.size_alloc]at S1;have HB:=((Below.refl w.heap.size w).alloc Nl (.cells (rcells z n r (.slice A len c)) 36)).alloc (by simp) (.cells #[.int .i64 0,.int .i64 0,.string ⟨#[]⟩] 38);have H1:=Yy (And.intro S1 HB);have hlen:len≤c:=by omega
 clear hcell S0 S1 HB hc1 hl;have hp:FindPost w (rfind fs no)=FindPost w (rfind (fs.drop 0) no):=rfl;unfold rv;go_enter Tryz.func26,Tryz.ntmps26;go_wp2;go_loopw [11] (fun i wr=>∃ k:Nat,k≤len∧i=.int .i64 k∧ClAt wr (w.heap.size+1) cel00∧Below w.heap.size w wr∧rfind fs no=rfind (fs.drop k) no) (fun i _=>len - (intOf i).toNat)
 case atStart=>exact⟨0,Nat.zero_le _,rfl,H1.out.1,H1.out.2,rfl⟩
 case round=>
  obtain⟨k,hk,rfl,hs,hb,hf⟩:=hrel;by_cases hlt:k<len
  ·obtain⟨b,off,rfl,hbB,hcc⟩:=HC.out (by rw[HL.out];omega);obtain⟨c0,c1,c2,c3⟩:=hcc k (by rw[HL.out];exact hlt);have c0:=(hb.cell (p:=⟨b,off+k*4,none⟩) hbB).trans c0;have c1:=(hb.cell (p:=⟨b,off+k*4+1,none⟩) hbB).trans c1;have c2:=(hb.cell (p:=⟨b,off+k*4+2,none⟩) hbB).trans c2;have c3:=(hb.cell (p:=⟨b,off+k*4+3,none⟩) hbB).trans c3;have IX:=ix_fld b off len c k hlt k rfl;rw[rfind_drop (by rw[HL.out];exact hlt)]at hf;generalize fs.getD k fld0=f at c0 c1 c2 c3 hf;obtain⟨m,x⟩:=f;dsimp only at c0 c1 c2 c3 hf;generalize off+k*4=o at c0 c1 c2 c3 IX;have hO:=hs.old (.cells #[.int .i64 m,.int .i64 x.n,.int .i64 x.r,.string x.s] 59);have hbO:=hb.alloc hb.size (.cells #[.int .i64 m,.int .i64 x.n,.int .i64 x.r,.string x.s] 59);clear hcc;by_cases he:m=no
   ·subst he;have d0:=hO.c0;have d1:=hO.c1;have d2:=hO.c2;have e0:=hO.fz 0;have e1:=hO.fz 1;have e2:=hO.fz 2;have HP:=Yy (hO.put x);have HQ:=Yy (below_put3 hbO (show w.heap.size≤w.heap.size+1 by omega) (.int .i64 x.n) (.int .i64 x.r) (.string x.s));rw[if_pos rfl]at hf;have HF:=Yy hf;clear hs hb hO hbO hf;go_wp2;refine bodyPost_ret (v:=.tuple #[x.v,.bool true]) ?_ rfl ⟨?_,HQ.out⟩
    ·exact res_cl2 Tryz.results26 rfl HP.out
    ·rw[HF.out];rfl
   ·rw[if_neg he]at hf;have HF:=Yy hf;have HO:=Yy hO;have HBO:=Yy hbO;clear hs hb hO hbO hf;go_wp2;go_roundw
    case rel=>exact⟨k+1,by omega,by go_num,HO.out,HBO.out,HF.out⟩
    case measure=>simp[intOf];omega
  ·obtain rfl:k=len:=by omega
   have e0:=hs.fz 0;have e1:=hs.fz 1;have e2:=hs.fz 2;have d0:=hs.c0;have d1:=hs.c1;have d2:=hs.c2;have HP:=Yy (hs.put cel00);have HQ:=Yy (below_put3 hb (show w.heap.size≤w.heap.size+1 by omega) (.int .i64 0) (.int .i64 0) (.string ⟨#[]⟩));rw[List.drop_eq_nil_of_le (by rw[HL.out];exact Nat.le_refl _),rfind_nil]at hf;have HF:=Yy hf;clear hs hb hf;go_wp2;refine bodyPost_ret (v:=.tuple #[cel00.v,.bool false]) ?_ rfl ⟨?_,HQ.out⟩
   ·exact res_cl2 Tryz.results26 rfl HP.out
   ·rw[HF.out];rfl
end
section
open Go.RowKit WM
def okFrom (n r:Int):Int→List Fld→Bool
 | _,[]=>true
 | m,f::fs=>decide (m≤f.no) && decide (f.no<8) && cmay f.c && stLess n r f.c.n f.c.r && okFrom n r (f.no+1) fs
def rmay (n r:Int) (fs:List Fld):Bool:=may n r && !(decide (fs.length=0) && decide (n=0) && decide (r=0)) && okFrom n r 0 fs
theorem okFrom_drop (n r m:Int) {fs:List Fld} {k:Nat} (hk:k<fs.length):okFrom n r m (fs.drop k) =
  (decide (m≤(fs.getD k fld0).no) && decide ((fs.getD k fld0).no<8) && cmay (fs.getD k fld0).c && stLess n r (fs.getD k fld0).c.n (fs.getD k fld0).c.r && okFrom n r ((fs.getD k fld0).no+1) (fs.drop (k+1))):=by
 rw[List.drop_eq_getElem_cons hk,okFrom];simp only[List.getD,List.getElem?_eq_getElem hk,Option.getD_some]
def MayPost (w:World) (v:Bool) (e:Ending) (w':World):Prop:=e=.returned (.bool v)∧Below w.heap.size w w'
theorem rmay_any (z:List Int) (n r:Int) (A:Option Addr) (len c:Nat) (fs:List Fld) (w:World) (hz:z.length=16) (hl:fs.length=len) (h:FsAt w A c fs):
  Calls Tryz.prog 58 #[rv z n r (.slice A len c)] w (MayPost w (rmay n r fs)):=by
 obtain⟨hc1,hc2,hc3,hcell⟩:=h;simp only[maxLen]at hc2;have HL:=Yy hl;have HC:=Yy hcell;have S0:=Yy (RcAt.new w hz n r (.slice A len c));have HB:=Yy ((Below.refl w.heap.size w).alloc Nl (.cells (rcells z n r (.slice A len c)) 36));have HM:=Yy (may_any n r);have hlen:len≤c:=by omega
 have s0:=S0.out.c16;have s1:=S0.out.c17;clear hcell hc1 hl;unfold rv;unfold st at HM;cases hm:may n r
 ·have HV:=Yy (show rmay n r fs=false by simp[rmay,hm]);rw[hm]at HM;clear hm;go_enter Tryz.func58,Tryz.ntmps58;go_wp2_with fail;refine (HM.out _).mono ?_;exact Tta47
 ·rw[hm]at HM;by_cases h0:len=0∧n=0∧r=0
  ·obtain⟨rfl,rfl,rfl⟩:=h0;have HV:=Yy (show rmay 0 0 fs=false by simp[rmay,hm,HL.out]);clear hm;go_enter Tryz.func58,Tryz.ntmps58;go_wp2_with fail;refine (HM.out _).mono ?_;rintro e w1 ⟨rfl,hb1⟩;have s2:=S0.out.below hb1 S0.out.lt;have d0:=s2.c16;have d1:=s2.c17;have d2:=s2.c18;have bw:=Yy (HB.out.trans (hb1.mono HB.out.size));clear hb1 s2;go_wp2;go_ret;exact⟨by rw[HV.out];rfl,bw.out⟩
  ·have HV:=Yy (show rmay n r fs=okFrom n r 0 (fs.drop 0) by
    simp only[rmay,hm,HL.out,Bool.true_and,List.drop_zero];have:(decide (len=0) && decide (n=0) && decide (r=0))=false:=by
     simp only[Bool.and_eq_false_iff,decide_eq_false_iff_not];omega
    rw[this]
    rfl)
   by_cases hl0:len=0
   ·subst hl0;have HT:=Yy (show rmay n r fs=true by rw[HV.out,List.drop_eq_nil_of_le (by rw[HL.out];exact Nat.zero_le _)];rfl);have hne:=st_ne (n:=n) (r:=r) (m:=0) (s:=0) (by omega);clear hm h0 HV;go_enter Tryz.func58,Tryz.ntmps58;go_wp2_with fail;refine (HM.out _).mono ?_;rintro e w1 ⟨rfl,hb1⟩;have s2:=S0.out.below hb1 S0.out.lt;have d0:=s2.c16;have d1:=s2.c17;have d2:=s2.c18;have bw:=Yy (HB.out.trans (hb1.mono HB.out.size));clear hb1 s2;go_wp2;refine wp_loop_rounds 1 ?_;rw[rounds_succ];go_wp2;go_ret;exact⟨by rw[HT.out];rfl,bw.out⟩
   ·have hln:¬ (len:Int)=0:=by omega
    clear hm h0;go_enter Tryz.func58,Tryz.ntmps58;go_wp2_with fail;refine (HM.out _).mono ?_;rintro e w1 ⟨rfl,hb1⟩;have s2:=S0.out.below hb1 S0.out.lt;have d0:=s2.c16;have d1:=s2.c17;have d2:=s2.c18;have bw:=Yy (HB.out.trans (hb1.mono HB.out.size));have S2:=Yy s2;clear hb1 s2;go_wp2;clear d0 d1 d2;go_loopw [3,25] (fun v i wr=>∃ (k:Nat) (m:Int),k≤len∧i=.int .i64 k∧v=.int .i64 m∧0≤m∧m≤8∧RcAt wr w.heap.size z n r (.slice A len c)∧Below w.heap.size w wr∧rmay n r fs=okFrom n r m (fs.drop k)) (fun _ i _=>len - (intOf i).toNat)
    case atStart=>exact⟨0,0,Nat.zero_le _,rfl,rfl,by omega,by omega,S2.out,bw.out,HV.out⟩
    case round=>
     obtain⟨k,m,hk,rfl,rfl,hm0,hm8,hs,hb,hf⟩:=hrel;by_cases hlt:k<len
     ·obtain⟨b,off,rfl,hbB,hcc⟩:=HC.out (by rw[HL.out];omega);obtain⟨c0,c1,c2,c3⟩:=hcc k (by rw[HL.out];exact hlt);have c0:=(hb.cell (p:=⟨b,off+k*4,none⟩) hbB).trans c0;have c1:=(hb.cell (p:=⟨b,off+k*4+1,none⟩) hbB).trans c1;have c2:=(hb.cell (p:=⟨b,off+k*4+2,none⟩) hbB).trans c2;have c3:=(hb.cell (p:=⟨b,off+k*4+3,none⟩) hbB).trans c3;have IX:=ix_fld b off len c k hlt k rfl;rw[okFrom_drop n r m (by rw[HL.out];exact hlt)]at hf;generalize fs.getD k fld0=f at c0 c1 c2 c3 hf;obtain⟨no,x⟩:=f;dsimp only at c0 c1 c2 c3 hf;generalize off+k*4=o at c0 c1 c2 c3 IX;have hO:=Yy (hs.old (.cells #[.int .i64 no,.int .i64 x.n,.int .i64 x.r,.string x.s] 59));have hbO:=Yy (hb.alloc hb.size (.cells #[.int .i64 no,.int .i64 x.n,.int .i64 x.r,.string x.s] 59));have hF:=Yy (FlAt.new wr ⟨no,x⟩);dsimp only at hF;clear hcc hs hb;by_cases h1:m≤no
      ·by_cases h2:no<8
       ·have t1:¬ no<m:=by omega
        have t2:¬ 8≤no:=by omega
        rw[decide_eq_true h1,decide_eq_true h2]at hf;simp only[Bool.true_and]at hf;have HCM:=Yy (cmay_any x);have HLV:=Yy (lives_any n r x);unfold st at HLV;unfold Cel.v at HCM HLV;cases hc:cmay x
        ·rw[hc]at hf HCM;simp only[Bool.false_and]at hf;have HF:=Yy hf;clear hc hf;go_wp2_with fail;refine (HCM.out _).mono ?_;rintro e w2 ⟨rfl,hb2⟩;have b2:=Yy (hbO.out.trans (hb2.mono hbO.out.size));clear hb2;go_wp2;go_ret;exact⟨by rw[HF.out];rfl,b2.out⟩
        ·rw[hc]at hf HCM;simp only[Bool.true_and]at hf;clear hc;cases hv:stLess n r x.n x.r
         ·rw[hv]at hf HLV;simp only[Bool.false_and]at hf;have HF:=Yy hf;clear hv hf;go_wp2_with fail;refine (HCM.out _).mono ?_;rintro e w2 ⟨rfl,hb2⟩;have b2:=Yy (hbO.out.trans (hb2.mono hbO.out.size));have g:=hF.out.below hb2 hF.out.lt;have g0:=g.c0;have g1:=g.c1;have g2:=g.c2;have g3:=g.c3;have s:=hO.out.below hb2 hO.out.lt;have d0:=s.c16;have d1:=s.c17;clear hb2 g s;go_wp2_with fail;refine (HLV.out _).mono ?_;rintro e w3 ⟨rfl,hb3⟩;have b3:=Yy (b2.out.trans (hb3.mono b2.out.size));clear hb3;go_wp2;go_ret;exact⟨by rw[HF.out];rfl,b3.out⟩
         ·rw[hv]at hf HLV;simp only[Bool.true_and]at hf;have HF:=Yy hf;clear hv hf;go_wp2_with fail;refine (HCM.out _).mono ?_;rintro e w2 ⟨rfl,hb2⟩;have b2:=Yy (hbO.out.trans (hb2.mono hbO.out.size));have g:=hF.out.below hb2 hF.out.lt;have G2:=Yy g;have g0:=g.c0;have g1:=g.c1;have g2:=g.c2;have g3:=g.c3;have s:=hO.out.below hb2 hO.out.lt;have O2:=Yy s;have d0:=s.c16;have d1:=s.c17;clear hb2 g s;go_wp2_with fail;refine (HLV.out _).mono ?_;rintro e w3 ⟨rfl,hb3⟩;have b3:=Yy (b2.out.trans (hb3.mono b2.out.size));have O3:=Yy (O2.out.below hb3 O2.out.lt);have g:=G2.out.below hb3 G2.out.lt;have k0:=g.c0;clear hb3 g g0 g1 g2 g3 d0 d1;go_wp2;go_roundw
          case rel=>exact⟨k+1,no+1,by omega,by go_num,by go_num,by omega,by omega,O3.out,b3.out,HF.out⟩
          case measure=>simp[intOf];omega
       ·rw[decide_eq_false h2]at hf;simp only[Bool.and_false,Bool.false_and]at hf;have HF:=Yy hf;have t1:¬ no<m:=by omega
        have t2:8≤no:=by omega
        clear hf;go_wp2;go_ret;exact⟨by rw[HF.out];rfl,hbO.out⟩
      ·rw[decide_eq_false h1]at hf;simp only[Bool.false_and]at hf;have HF:=Yy hf;have t1:no<m:=by omega
       clear hf;go_wp2;go_ret;exact⟨by rw[HF.out];rfl,hbO.out⟩
     ·obtain rfl:k=len:=by omega
      rw[List.drop_eq_nil_of_le (by rw[HL.out];exact Nat.le_refl _),okFrom]at hf;have HF:=Yy hf;have HB2:=Yy hb;clear hf hb hs;go_wp2;go_ret;exact⟨by rw[HF.out];rfl,HB2.out⟩
end
end
section
section
open Go.RowKit WM
theorem eq_drop {fs gs:List Fld} {k:Nat} (h1:k<fs.length) (h2:k<gs.length):(fs.drop k=gs.drop k)↔(fs.getD k fld0=gs.getD k fld0∧fs.drop (k+1)=gs.drop (k+1)):=by
 rw[List.drop_eq_getElem_cons h1,List.drop_eq_getElem_cons h2,List.cons.injEq];simp only[List.getD,List.getElem?_eq_getElem h1,List.getElem?_eq_getElem h2,Option.getD_some]
theorem equal_any (A1 A2:Option Addr) (len1 len2 cap1 cap2:Nat) (fs gs:List Fld) (w:World) (hl1:fs.length=len1) (hl2:gs.length=len2) (h1:FsAt w A1 cap1 fs) (h2:FsAt w A2 cap2 gs):
  Calls Tryz.prog 88 #[.slice A1 len1 cap1,.slice A2 len2 cap2] w fun e w'=>e=.returned (.bool (decide (fs=gs)))∧Below w.heap.size w w':=by
 obtain⟨hc1,hm1,hn1,hcell1⟩:=h1;obtain⟨hc2,hm2,hn2,hcell2⟩:=h2;simp only[maxLen]at hm1 hm2;have HL1:=Yy hl1;have HC1:=Yy hcell1;have HL2:=Yy hl2;have HC2:=Yy hcell2;have hlen1:len1≤cap1:=by omega
 have hlen2:len2≤cap2:=by omega
 clear hcell1 hcell2 hc1 hc2 hl1 hl2 hn1 hn2;by_cases hl:len1=len2
 ·subst hl;have HV:=Yy (show decide (fs=gs)=decide (fs.drop 0=gs.drop 0) by rw[List.drop_zero,List.drop_zero]);have HB0:=Yy (Below.refl w.heap.size w);go_enter Tryz.func88,Tryz.ntmps88;go_wp2;go_loopw [13] (fun i wr=>∃ k:Nat,k≤len1∧i=.int .i64 k∧Below w.heap.size w wr∧decide (fs=gs)=decide (fs.drop k=gs.drop k)) (fun i _=>len1 - (intOf i).toNat)
  case atStart=>exact⟨0,Nat.zero_le _,rfl,HB0.out,HV.out⟩
  case round=>
   obtain⟨k,hk,rfl,hb,hf⟩:=hrel;by_cases hlt:k<len1
   ·obtain⟨b1,off1,rfl,hB1,hcc1⟩:=HC1.out (by rw[HL1.out];omega);obtain⟨c0,c1,c2,c3⟩:=hcc1 k (by rw[HL1.out];exact hlt);have IX1:=Yy (ix_fld b1 off1 len1 cap1 k hlt k rfl);obtain⟨b2,off2,rfl,hB2,hcc2⟩:=HC2.out (by rw[HL2.out];omega);obtain⟨d0,d1,d2,d3⟩:=hcc2 k (by rw[HL2.out];exact hlt);have IX2:=Yy (ix_fld b2 off2 len1 cap2 k hlt k rfl);have c0:=(hb.cell (p:=⟨b1,off1+k*4,none⟩) hB1).trans c0;have c1:=(hb.cell (p:=⟨b1,off1+k*4+1,none⟩) hB1).trans c1;have c2:=(hb.cell (p:=⟨b1,off1+k*4+2,none⟩) hB1).trans c2;have c3:=(hb.cell (p:=⟨b1,off1+k*4+3,none⟩) hB1).trans c3;have d0:=(hb.cell (p:=⟨b2,off2+k*4,none⟩) hB2).trans d0;have d1:=(hb.cell (p:=⟨b2,off2+k*4+1,none⟩) hB2).trans d1;have d2:=(hb.cell (p:=⟨b2,off2+k*4+2,none⟩) hB2).trans d2;have d3:=(hb.cell (p:=⟨b2,off2+k*4+3,none⟩) hB2).trans d3;have hB1:=Nat.lt_of_lt_of_le hB1 hb.size;have hB2:=Nat.lt_of_lt_of_le hB2 hb.size;have hdr:=eq_drop (fs:=fs) (gs:=gs) (k:=k) (by rw[HL1.out];exact hlt) (by rw[HL2.out];exact hlt);generalize fs.getD k fld0=f at c0 c1 c2 c3 hdr;generalize gs.getD k fld0=g at d0 d1 d2 d3 hdr;generalize off1+k*4=o1 at c0 c1 c2 c3 IX1;generalize off2+k*4=o2 at d0 d1 d2 d3 IX2;clear hcc1 hcc2;have HBR:=Yy hb;by_cases he:f=g
    ·subst he;have HEQ:=Yy (fl_same f);have HF:=Yy (show decide (fs=gs)=decide (fs.drop (k+1)=gs.drop (k+1)) by rw[hf,decide_eq_decide,hdr];simp);clear hf hdr hb;go_wp2_with fail;refine wp_region_G _ (by kernel_rfl) ?_;refine YGa 0 (some 16) rfl ?_;refine YGa 1 (some 17) rfl ?_;refine YGb 2 (some 18) rfl (fun w9 hSw=>IX1.out w9) ?_;refine YGd 3 (some 19) _ rfl (fun w9 hSw=>by have q0:=(hSw.cell (p:=⟨b1,o1,none⟩) hB1).trans c0;have q1:=(hSw.cell (p:=⟨b1,o1+1,none⟩) hB1).trans c1;have q2:=(hSw.cell (p:=⟨b1,o1+2,none⟩) hB1).trans c2;have q3:=(hSw.cell (p:=⟨b1,o1+3,none⟩) hB1).trans c3;go_simp;try with_reducible rfl) ?_;refine YGa 4 (some 20) rfl ?_;refine YGa 5 (some 21) rfl ?_;refine YGb 6 (some 22) rfl (fun w9 hSw=>IX2.out w9) ?_;refine YGd 7 (some 23) _ rfl (fun w9 hSw=>by have q0:=(hSw.cell (p:=⟨b2,o2,none⟩) hB2).trans d0;have q1:=(hSw.cell (p:=⟨b2,o2+1,none⟩) hB2).trans d1;have q2:=(hSw.cell (p:=⟨b2,o2+2,none⟩) hB2).trans d2;have q3:=(hSw.cell (p:=⟨b2,o2+3,none⟩) hB2).trans d3;go_simp;try with_reducible rfl) ?_;refine YGb 8 (some 24) rfl (fun w9 hSw=>HEQ.out w9) ?_;refine wpG_done (by kernel_rfl) ?_ _;intro w9 hSw _;have B9:=Yy (HBR.out.trans (hSw.mono HBR.out.size));clear hSw c0 c1 c2 c3 d0 d1 d2 d3;go_wp2;go_roundw
     case rel=>exact⟨k+1,by omega,by go_num,B9.out,HF.out⟩
     case measure=>simp[intOf];omega
    ·have HNE:=Yy he;have HF:=Yy (show decide (fs=gs)=false by rw[hf,decide_eq_false_iff_not,hdr];simp[he]);clear hf hdr hb he;go_wp2_with fail;refine wp_region_G _ (by kernel_rfl) ?_;refine YGa 0 (some 16) rfl ?_;refine YGa 1 (some 17) rfl ?_;refine YGb 2 (some 18) rfl (fun w9 hSw=>IX1.out w9) ?_;refine YGd 3 (some 19) _ rfl (fun w9 hSw=>by have q0:=(hSw.cell (p:=⟨b1,o1,none⟩) hB1).trans c0;have q1:=(hSw.cell (p:=⟨b1,o1+1,none⟩) hB1).trans c1;have q2:=(hSw.cell (p:=⟨b1,o1+2,none⟩) hB1).trans c2;have q3:=(hSw.cell (p:=⟨b1,o1+3,none⟩) hB1).trans c3;go_simp;try with_reducible rfl) ?_;refine YGa 4 (some 20) rfl ?_;refine YGa 5 (some 21) rfl ?_;refine YGb 6 (some 22) rfl (fun w9 hSw=>IX2.out w9) ?_;refine YGd 7 (some 23) _ rfl (fun w9 hSw=>by have q0:=(hSw.cell (p:=⟨b2,o2,none⟩) hB2).trans d0;have q1:=(hSw.cell (p:=⟨b2,o2+1,none⟩) hB2).trans d1;have q2:=(hSw.cell (p:=⟨b2,o2+2,none⟩) hB2).trans d2;have q3:=(hSw.cell (p:=⟨b2,o2+3,none⟩) hB2).trans d3;go_simp;try with_reducible rfl) ?_;refine YGd 8 (some 24) _ rfl (fun w9 hSw=>by go_simp;rw[fl_if HNE.out];try with_reducible rfl) ?_;refine wpG_done (by kernel_rfl) ?_ _;intro w9 hSw _;have B9:=Yy (HBR.out.trans (hSw.mono HBR.out.size));clear hSw c0 c1 c2 c3 d0 d1 d2 d3;go_wp2;go_ret;exact⟨by rw[HF.out];rfl,B9.out⟩
   ·obtain rfl:k=len1:=by omega
    rw[List.drop_eq_nil_of_le (by rw[HL1.out];exact Nat.le_refl _),List.drop_eq_nil_of_le (by rw[HL2.out];exact Nat.le_refl _)]at hf;have HF:=Yy hf;have HB:=Yy hb;clear hf hb;go_wp2;go_ret;exact⟨by rw[HF.out];simp,HB.out⟩
 ·have HF:=Yy (show decide (fs=gs)=false by rw[decide_eq_false_iff_not];intro e;apply hl;rw[← HL1.out,← HL2.out,e]);have hne:¬ (len1:Int)=(len2:Int):=by omega
  have HB0:=Yy (Below.refl w.heap.size w);go_enter Tryz.func88,Tryz.ntmps88;go_wp2;go_ret;exact⟨by rw[HF.out];rfl,HB0.out⟩
end
section
open Go.RowKit WM
theorem same_pair {n r m s:Int} (w:World):(Op.equalIn 10000 33 (.agg #[.int .i64 n,.int .i64 r]) (.agg #[.int .i64 m,.int .i64 s])).run Tryz.prog w=.ok (decide (n=m∧r=s)) w:=by
 by_cases h1:n=m
 ·subst h1;by_cases h2:r=s
  ·subst h2;go_simp
  ·go_simp
 ·go_simp
noncomputable def rsame (z1:List Int) (n1 r1:Int) (f1:List Fld) (z2:List Int) (n2 r2:Int) (f2:List Fld):Bool:=(z1 == z2) && decide (n1=n2∧r1=r2) && decide (f1=f2)
theorem Tta18 {p:Prop} (h:p:=by
  go_enter Tryz.func56,Tryz.ntmps56;go_wp2_with (first | ((with_reducible refine YyL 31 (.tmp 5) ⟨w.heap.size,0,none⟩ L1.out ?_ ?_ ?_);rfl;rfl) | ((with_reducible refine YyL 31 (.tmp 7) ⟨w.heap.size+1,0,none⟩ L2.out ?_ ?_ ?_);rfl;rfl));go_ret;exact⟨by rw[HV.out];rfl,HB.out⟩
 ):p:=h
theorem rsame_any (z1:List Int) (n1 r1:Int) (A1:Option Addr) (l1 c1:Nat) (f1:List Fld) (z2:List Int) (n2 r2:Int) (A2:Option Addr) (l2 c2:Nat) (f2:List Fld) (w:World)
  (hz1:z1.length=16) (hz2:z2.length=16) (hb1:AllBytes z1) (hb2:AllBytes z2) (hl1:f1.length=l1) (hl2:f2.length=l2) (h1:FsAt w A1 c1 f1) (h2:FsAt w A2 c2 f2):
  Calls Tryz.prog 56 #[rv z1 n1 r1 (.slice A1 l1 c1),rv z2 n2 r2 (.slice A2 l2 c2)] w fun e w'=>e=.returned (.bool (rsame z1 n1 r1 f1 z2 n2 r2 f2))∧Below w.heap.size w w':=by
 have S1:=(RcAt.new w hz1 n1 r1 (.slice A1 l1 c1)).old (.cells (rcells z2 n2 r2 (.slice A2 l2 c2)) 36);have S2:=RcAt.new (w.alloc (.cells (rcells z1 n1 r1 (.slice A1 l1 c1)) 36)) hz2 n2 r2 (.slice A2 l2 c2);rw[World.size_alloc]at S2;have HB:=((Below.refl w.heap.size w).alloc Nl (.cells (rcells z1 n1 r1 (.slice A1 l1 c1)) 36)).alloc (by simp) (.cells (rcells z2 n2 r2 (.slice A2 l2 c2)) 36);have HC:=Yy (equal_any A1 A2 l1 l2 c1 c2 f1 f2 _ hl1 hl2 (h1.below HB Nl) (h2.below HB Nl));have HE:=eq_id hb1 hb2 hz1 hz2;have L1:=Yy (load_id S1);have L2:=Yy (load_id S2);have a6:=S1.c16;have a7:=S1.c17;have a8:=S1.c18;have b6:=S2.c16;have b7:=S2.c17;have b8:=S2.c18;have HB:=Yy HB;clear S1 S2 h1 h2 hl1 hl2;have SP:=@same_pair n1 r1 n2 r2;have HV:Hid (rsame z1 n1 r1 f1 z2 n2 r2 f2=((z1 == z2) && decide (n1=n2∧r1=r2) && decide (f1=f2))):=Yy rfl;generalize rsame z1 n1 r1 f1 z2 n2 r2 f2=V at *;unfold rv;cases hz:(z1 == z2)
 ·rw[hz]at HE HV;simp only[Bool.false_and]at HV;clear hz;exact Tta18
 ·rw[hz]at HE HV;simp only[Bool.true_and]at HV;clear hz;cases hd:decide (n1=n2∧r1=r2)
  ·rw[hd]at SP HV;simp only[Bool.false_and]at HV;clear hd;exact Tta18
  ·rw[hd]at SP HV;simp only[Bool.true_and]at HV;clear hd;go_enter Tryz.func56,Tryz.ntmps56;go_wp2_with (first | ((with_reducible refine YyL 31 (.tmp 5) ⟨w.heap.size,0,none⟩ L1.out ?_ ?_ ?_);rfl;rfl) | ((with_reducible refine YyL 31 (.tmp 7) ⟨w.heap.size+1,0,none⟩ L2.out ?_ ?_ ?_);rfl;rfl));refine HC.out.mono ?_;rintro e w2 ⟨rfl,hb⟩;have bw:=Yy (HB.out.trans (hb.mono HB.out.size));clear hb;go_wp2;go_ret;exact⟨by rw[HV.out];rfl,bw.out⟩
end
end
section
open Go.RowKit WM
def z16:List Int:=List.replicate 16 0
theorem z16_len:z16.length=16:=rfl
theorem z16_bytes:AllBytes z16:=by unfold AllBytes z16;decide
theorem zeroRec (w:World):(zeroValue 36).run Tryz.prog w=.ok (rv z16 0 0 (.slice none 0 0)) w:=(zero_of_info (show (Tryz.prog.info? 36).map (fun i=>(i.zero,i.size))=some (some (rv z16 0 0 (.slice none 0 0)),19) by kernel_rfl)).1 w
theorem list16 {z:List Int} (h:z.length=16):∃ a b c d e f g i j k l m n o p q,z=[a,b,c,d,e,f,g,i,j,k,l,m,n,o,p,q]:=by
 match z,h with
 | [a,b,c,d,e,f,g,i,j,k,l,m,n,o,p,q],_=>exact⟨a,b,c,d,e,f,g,i,j,k,l,m,n,o,p,q,rfl⟩
theorem built_none:Tryz.prog.built 36 []=some (rcells z16 0 0 (.slice none 0 0)):=by kernel_rfl
theorem Tta55 {p:Prop} (h:p:=by
  obtain⟨a,b,c,d,e,f,g,i,j,k,l,m,n',o,p,q,rfl⟩:=list16 h
  kernel_rfl
 ):p:=h
theorem built_rec {z:List Int} (h:z.length=16) (n r:Int):Tryz.prog.built 36 [(0,.agg (bvals z)),(1,.agg #[.int .i64 n,.int .i64 r])]=some (rcells z n r (.slice none 0 0)):=by
 exact Tta55
theorem build_none (w:World):(Instr.build 36 #[]).run Tryz.prog w=.ok (rv z16 0 0 (.slice none 0 0)) w:=run_build w _ _ _ built_none
theorem build_rec {z:List Int} (h:z.length=16) (n r:Int) (w:World):(Instr.build 36 #[(0,.agg (bvals z)),(1,.agg #[.int .i64 n,.int .i64 r])]).run Tryz.prog w=.ok (rv z n r (.slice none 0 0)) w:=run_build w _ _ _ (built_rec h n r)
theorem rcells_one {z:List Int} {n r:Int} {v:Value} (hv:v.oneCell'=true):(rcells z n r v).all (·.oneCell')=true:=by
 rw[Array.all_eq_true_iff_forall_mem];intro u hu;simp only[rcells,List.mem_toArray,List.mem_append,List.mem_map,List.mem_cons,List.not_mem_nil,or_false]at hu;rcases hu with ⟨x,_,rfl⟩ | rfl | rfl | rfl
 ·rfl
 ·rfl
 ·rfl
 ·exact hv
theorem size_rcells {z:List Int} (hz:z.length=16) (n r:Int) (v:Value):(Tryz.prog.info? 36).map (·.size)=some (rcells z n r v).size:=by rw[rcells_size hz];exact sizeRec
theorem RcAt.putAll {w:World} {b:Nat} {z y:List Int} {n r m s:Int} {v u:Value} (h:RcAt w b z n r v) (hy:y.length=16):RcAt (w.setRow b (rcells y m s u)) b y m s u:=⟨hy,setRow_heap w b _ _ _ _ h.2⟩
theorem res_rc {fn:Func} {p:Tmp} (h:fn.results=#[.cell p 36]) {tmps:Array Value} {w:World} {b:Nat} {z:List Int} {n r:Int} {v:Value} (hp:tmps.getD p undef=.pointer (some ⟨b,0,none⟩)) (hs:RcAt w b z n r v):
  (results fn tmps).run Tryz.prog w=.ok (rv z n r v) w:=by
 have hp':tmps[p]?.getD undef=.pointer (some ⟨b,0,none⟩):=by simpa using hp
 simp[results,h,hp',asAddr,load_rec hs]
theorem res_rc2 {fn:Func} {p q:Tmp} (h:fn.results=#[.cell p 36,.tmp q]) {tmps:Array Value} {w:World} {b:Nat} {z:List Int} {n r:Int} {v:Value} (hp:tmps.getD p undef=.pointer (some ⟨b,0,none⟩)) (hs:RcAt w b z n r v):
  (results fn tmps).run Tryz.prog w=.ok (.tuple #[rv z n r v,tmps.getD q undef]) w:=by
 have hp':tmps[p]?.getD undef=.pointer (some ⟨b,0,none⟩):=by simpa using hp
 simp[results,h,hp',asAddr,load_rec hs]
theorem RcAt.hp {w:World} {b:Nat} {z:List Int} {n r:Int} {v:Value} (h:RcAt w b z n r v):w.heap[b]?=some (.cells (rcells z n r v) 36):=h.2
theorem exec_load_by {P:Program} {o:Oper} {ρ:Operand→Value} {w:World} (ty:TypeId) (x:Operand) (ho:o.op=.load ty x) (ad:Addr) (hx:ρ x=.pointer (some ad)) {v:Value} (hv:(loadVar ty ad).run P w=.ok v w):
  (execOp ρ o).run P w=.ok (.value v) w:=by
 unfold execOp;simp only[ho,hx,Instr.loadAt,Instr.sureAddr,Sem.run_bind,Sem.run_pure,Result.andThen_ok,hv]
theorem exec_build_by {P:Program} {o:Oper} {ρ:Operand→Value} {w:World} (t:TypeId) (parts:Array (Nat×Operand)) (ho:o.op=.build t parts) (ps:Array (Nat×Value)) (hp:parts.map (fun x=>(x.1,ρ x.2))=ps) {v:Value}
  (hv:(Instr.build t ps).run P w=.ok v w):(execOp ρ o).run P w=.ok (.value v) w:=by
 unfold execOp;simp only[ho];have e:parts.map (fun x=>match x with | (i,x)=>(i,ρ x))=ps:=hp;rw[e];simp[hv]
theorem exec_store_row {P:Program} {o:Oper} {ρ:Operand→Value} {w:World} (ty:TypeId) (x y:Operand) (ho:o.op=.store ty x y) (g:Nat) (cells:Array Value) (hx:ρ x=.pointer (some ⟨g,0,none⟩)) (hy:ρ y=.agg cells)
  (t:TypeId) (old:Array Value) (hg:w.heap[g]?=some (.cells old t (0,0))) (hi:(P.info? ty).map (·.size)=some cells.size) (hold:old.size=cells.size) (h1:cells.all (·.oneCell')=true):
  (execOp ρ o).run P w=.ok .skip (w.setRow g cells):=by
 unfold execOp;simp only[ho,hx,hy,Instr.storeAt,Instr.sureAddr,Sem.run_bind,Sem.run_pure,Result.andThen_ok,run_storeVar_row w g t ty old cells hg hi hold h1]
structure Rc where
 z:List Int
 n:Int
 r:Int
 fs:List Fld
def rc0:Rc:=⟨z16,0,0,[]⟩
def Rc.v (R:Rc) (A:Option Addr) (c:Nat):Value:=rv R.z R.n R.r (.slice A R.fs.length c)
def Rc.Ok (R:Rc):Prop:=R.z.length=16∧AllBytes R.z
def Rc.may (R:Rc):Bool:=rmay R.n R.r R.fs
theorem okFrom_len (n r:Int):∀ (fs:List Fld) (m:Int),okFrom n r m fs=true→0≤m→m≤8→(fs.length:Int)+m≤8
 | [],m,_,_,h=>by simpa using h
 | f::fs,m,h,h0,h8=>by
  simp only[okFrom,Bool.and_eq_true,decide_eq_true_eq]at h;have:=okFrom_len n r fs (f.no+1) h.2 (by omega) (by omega);simp only[List.length_cons];omega
theorem okFrom_all (n r:Int):∀ (fs:List Fld) (m:Int),okFrom n r m fs=true→0≤m→∀ f∈fs,m≤f.no∧f.no<8∧cmay f.c=true∧stLess n r f.c.n f.c.r=true
 | [],_,_,_,f,hf=>by cases hf
 | g::fs,m,h,h0,f,hf=>by
  simp only[okFrom,Bool.and_eq_true,decide_eq_true_eq]at h;rcases List.mem_cons.1 hf with rfl | hf
  ·exact⟨h.1.1.1.1,h.1.1.1.2,h.1.1.2,h.1.2⟩
  ·obtain⟨h1,h2⟩:=okFrom_all n r fs (g.no+1) h.2 (by omega) f hf;exact⟨by omega,h2⟩
theorem rmay_okFrom {n r:Int} {fs:List Fld} (h:rmay n r fs=true):okFrom n r 0 fs=true:=by
 simp only[rmay,Bool.and_eq_true]at h;exact h.2
theorem rmay_len {n r:Int} {fs:List Fld} (h:rmay n r fs=true):fs.length≤8:=by
 have:=okFrom_len n r fs 0 (rmay_okFrom h) (by omega) (by omega);omega
theorem rmay_all {n r:Int} {fs:List Fld} (h:rmay n r fs=true):∀ f∈fs,0≤f.no∧f.no<8∧cmay f.c=true∧stLess n r f.c.n f.c.r=true:=okFrom_all n r fs 0 (rmay_okFrom h) (by omega)
end
end Go.Proofs.YtnlhkpmgbpfjmaaGreatDoor
