import Derived.Test.YtnlhkpmgbpfjmaaGreatDoorQd9
import Derived.Test.YtnlhkpmgbpfjmaaGreatDoorQd8
/- What functions answer, part 10. -/
namespace Go.Proofs.YtnlhkpmgbpfjmaaGreatDoor
set_option linter.unusedVariables false
set_option linter.unusedSimpArgs false
set_option maxHeartbeats 16000000
set_option maxRecDepth 100000
section
section
open Go.RowKit WM
theorem Tta41 {p:Prop} (h:p:=by
  go_enter Tryz.func72,Tryz.ntmps72;exact Ttb11
 ):p:=h
theorem rcmay_any (c:Cel) (w:World):Calls Tryz.prog 72 #[c.v] w fun e w'=>e=.returned (.bool (cmay c))∧Below w.heap.size w w':=by
 have HC:=Yy (rdmay_any c.n c.r);have S0:=Yy (ClAt.new w c);have HB:=Yy ((((Below.refl w.heap.size w).alloc Nl (.cells #[.int .i64 c.n,.int .i64 c.r,.string c.s] 38))));unfold Cel.v;cases hm:may c.n c.r
 ·have HV:=Yy (show cmay c=false by simp[cmay,hm]);rw[hm]at HC;unfold st at HC;clear hm;go_enter Tryz.func72,Tryz.ntmps72;exact Tta61
 ·rw[hm]at HC;have hmay:=may_iff.1 hm;by_cases h0:1≤c.n
  ·have t1:0<c.n:=by omega
   have HV:=Yy (show cmay c=decide ((c.s.size:Int)≤200) by simp[cmay,hm,h0];omega);unfold st at HC;clear hm hmay;exact Tta41
  ·have t1:¬ 0<c.n:=by omega
   have HV:=Yy (show cmay c=false by simp[cmay,h0]);unfold st at HC;clear hm hmay h0;exact Tta41
end
section
open Go.RowKit WM
theorem same_pair' {n r m s:Int} (w:World):(Op.equalIn 10000 33 (.agg #[.int .i64 n,.int .i64 r]) (.agg #[.int .i64 m,.int .i64 s])).run Tryz.prog w=.ok (decide (n=m∧r=s)) w:=by
 by_cases h1:n=m
 ·subst h1;by_cases h2:r=s
  ·subst h2;go_simp
  ·go_simp
 ·go_simp
def z32:List Int:=List.replicate 32 0
theorem z32_len:z32.length=32:=by rw[z32,List.length_replicate]
theorem zeroD' (w:World):(zeroValue 26).run Tryz.prog w=.ok (.agg (bvals z32)) w:=zeroD w
theorem putDig (w:World) (c c':Array Value):(w.alloc (.cells c 26)).setRow w.heap.size c'=w.alloc (.cells c' 26):=World.setRow_alloc_new w _ _ _
theorem wpList_store_dig {w:World} {ops:Array Oper} {rest:List Oper} {o:Oper} {a:Act} {Q:Exit→Act→World→Prop} (hgd:o.guard=none) (x y:Operand) (hop:o.op=.store 26 x y)
  (b:Nat) (hb:b=w.heap.size) (hx:a.eval x=.pointer (some ⟨b,0,none⟩)) (l:List Int) (hl:l.length=32) (hy:a.eval y=.agg (bvals l))
  (hK:∀ w',Below w.heap.size w w'→BRow w' b 26 l→wpList Tryz.prog ops Q rest (a.put o.dst undef) w'):wpList Tryz.prog ops Q (o::rest) a (w.alloc (.cells (bvals z32) 26)):=by
 subst hb;refine wpList_store_row hgd 26 x y hop w.heap.size (bvals l) hx hy 26 _ (heap_alloc_new w _) (by rw[sizeD,bvals_size,hl]) (by rw[bvals_size,bvals_size,hl,z32_len]) (bvals_one l) ?_;rw[putDig];exact hK _ ((Below.refl w.heap.size w).alloc Nl _) (BRow.new w _ l)
theorem load_digC {w:World} {b:Nat} {l:List Int} (h:BRow w b 26 l) (hl:l.length=32):(loadVar 26 ⟨b,0,none⟩).run Tryz.prog w=.ok (.agg (bvals l)) w:=
 run_loadVar_row w b 26 26 _ (0,0) _ h Tryz.underlying26 rfl (by rw[sizeD,bvals_size,hl])
theorem ix_str (s:ByteArray) (k:Nat) (hk:k<(nums s).length) (K:Int) (e:K=k) (w:World):(Instr.index 9 (.string s) (.int .i64 K)).run Tryz.prog w=.ok (.int .u8 ((nums s).getD k 0)) w:=by
 exact Tta56
theorem less_step {xs ys:List Int} {k:Nat} (h1:k<xs.length) (h2:k<ys.length):lessL (xs.drop k) (ys.drop k)=(decide (xs.getD k 0<ys.getD k 0) || (xs.getD k 0 == ys.getD k 0 && lessL (xs.drop (k+1)) (ys.drop (k+1)))):=by
 rw[drop_at h1,drop_at h2,lessL]
theorem rcless_any (a b:Cel) (w:World) (ha:a.s.size≤300) (hb:b.s.size≤300):Calls Tryz.prog 132 #[a.v,b.v] w fun e w'=>e=.returned (.bool (cless a b))∧Below w.heap.size w w':=by
 have S0:=Yy ((ClAt.new w a).old (.cells #[.int .i64 b.n,.int .i64 b.r,.string b.s] 38));have s1:=ClAt.new (w.alloc (.cells #[.int .i64 a.n,.int .i64 a.r,.string a.s] 38)) b;rw[World.size_alloc]at s1;have S1:=Yy s1;have HB:=Yy (((Below.refl w.heap.size w).alloc Nl (.cells #[.int .i64 a.n,.int .i64 a.r,.string a.s] 38)).alloc (by simp) (.cells #[.int .i64 b.n,.int .i64 b.r,.string b.s] 38))
 conv=>congr;rfl;rfl;(unfold Cel.v)
 clear s1;by_cases hst:a.n=b.n∧a.r=b.r
 ·have hz:=zeroD';have e1:stLess a.n a.r b.n b.r=false:=by rw[st_no];omega
  have e2:stLess b.n b.r a.n a.r=false:=by rw[st_no];omega
  have HV:Hid (cless a b=(if lessL (SH.sum (nums a.s)) (SH.sum (nums b.s)) then true else if lessL (SH.sum (nums b.s)) (SH.sum (nums a.s)) then false else lessL (nums a.s) (nums b.s))):=Yy (by
   unfold cless;rw[e1,e2];simp only[Bool.false_eq_true,if_false])
  have HOA:=Yy (fun (X:World)=>rof_dig a.s X (by omega));have HOB:=Yy (fun (X:World)=>rof_dig b.s X (by omega));unfold DSumPost at HOA HOB;have LA:=Yy (SH.sum_len (nums a.s));have LB:=Yy (SH.sum_len (nums b.s));have hea:=eq_dig (SH.sum_bytes (nums a.s)) (SH.sum_bytes (nums b.s)) LA.out LB.out;have HRL:=Yy (fun (X:World)=>rless_dig (SH.sum (nums a.s)) (SH.sum (nums b.s)) X (SH.sum_bytes _) (SH.sum_bytes _) LA.out LB.out);have hsn:=@same_pair' a.n a.r b.n b.r;rw[decide_eq_true hst]at hsn;obtain⟨x,hx⟩:∃ x,SH.sum (nums a.s)=x:=⟨_,rfl⟩;obtain⟨y,hy⟩:∃ y,SH.sum (nums b.s)=y:=⟨_,rfl⟩;rw[hx]at HOA LA hea HRL HV;rw[hy]at HOB LB hea HRL HV;clear hst e1 e2 hx hy ha;generalize cless a b=V at HV ⊢;go_enter Tryz.func132,Tryz.ntmps132;go_wp2_with fail;refine (HOA.out _).mono ?_;rintro e w1 ⟨rfl,hb1⟩;have B1:=Yy (HB.out.trans (hb1.mono HB.out.size));have P0:=Yy (S0.out.below hb1 S0.out.lt);have P1:=Yy (S1.out.below hb1 S1.out.lt);clear hb1;go_wp2_with (first | ((with_reducible refine wpList_store_dig (o:=⟨none,.store 26 (.tmp 6) (.tmp 23),_,_,_,_⟩) (w:=w1) ?_ (.tmp 6) (.tmp 23) ?_ w1.heap.size rfl ?_ x LA.out ?_ ?_);rfl;rfl;rfl;rfl;intro w2 hb2 hr2;have B2:=Yy (B1.out.trans (hb2.mono B1.out.size));have Q0:=Yy (P0.out.below hb2 P0.out.lt);have Q1:=Yy (P1.out.below hb2 P1.out.lt);have RX:=Yy hr2;have k2:=Q1.out.c2;clear hb2 hr2));refine (HOB.out _).mono ?_;rintro e w3 ⟨rfl,hb3⟩;have B3:=Yy (B2.out.trans (hb3.mono B2.out.size));have R0:=Yy (Q0.out.below hb3 Q0.out.lt)
  have R1:=Yy (Q1.out.below hb3 Q1.out.lt);have RX3:=Yy (RX.out.below hb3 RX.out.lt);clear hb3 k2;cases hne:(x == y)
  ·rw[hne]at hea;have HT:Hid (V=lessL x y):=Yy (by
    rw[HV.out];cases h1:lessL x y
    ·cases h2:lessL y x
     ·rw[lessL_total h1 h2]at hne;simp at hne
     ·rfl
    ·rfl)
   clear hne;go_wp2_with (first | ((with_reducible refine wpList_store_dig (o:=⟨none,.store 26 (.tmp 7) (.tmp 26),_,_,_,_⟩) (w:=w3) ?_ (.tmp 7) (.tmp 26) ?_ w3.heap.size rfl ?_ y LB.out ?_ ?_);rfl;rfl;rfl;rfl;intro w4 hb4 hr4;have B4:=Yy (B3.out.trans (hb4.mono B3.out.size));have LX:=Yy (load_digC (RX3.out.below hb4 RX3.out.lt) LA.out);have LY:=Yy (load_digC hr4 LB.out);clear hb4 hr4) | ((with_reducible refine YyL 26 (.tmp 6) ⟨w1.heap.size,0,none⟩ LX.out ?_ ?_ ?_);rfl;rfl) | ((with_reducible refine YyL 26 (.tmp 7) ⟨w3.heap.size,0,none⟩ LY.out ?_ ?_ ?_);rfl;rfl) | ((with_reducible refine YyL 26 (.tmp 6) ⟨w1.heap.size,0,none⟩ LX.out ?_ ?_ ?_);rfl;rfl) | ((with_reducible refine YyL 26 (.tmp 7) ⟨w3.heap.size,0,none⟩ LY.out ?_ ?_ ?_);rfl;rfl));refine (HRL.out _).mono ?_;rintro e w5 ⟨rfl,hb5⟩;have B5:=Yy (B4.out.trans (hb5.mono B4.out.size));clear hb5;go_wp2;go_ret;exact⟨by rw[HT.out];rfl,B5.out⟩
  ·rw[hne]at hea;have hxy:x=y:=by simpa using hne
   have HT:Hid (V=lessL ((nums a.s).drop 0) ((nums b.s).drop 0)):=Yy (by
    rw[HV.out,hxy,lessL_self]
    rfl)
   clear hne hxy;go_wp2_with (first | ((with_reducible refine wpList_store_dig (o:=⟨none,.store 26 (.tmp 7) (.tmp 26),_,_,_,_⟩) (w:=w3) ?_ (.tmp 7) (.tmp 26) ?_ w3.heap.size rfl ?_ y LB.out ?_ ?_);rfl;rfl;rfl;rfl;intro w4 hb4 hr4;have B4:=Yy (B3.out.trans (hb4.mono B3.out.size));have U0:=Yy (R0.out.below hb4 R0.out.lt);have U1:=Yy (R1.out.below hb4 R1.out.lt);have LX:=Yy (load_digC (RX3.out.below hb4 RX3.out.lt) LA.out);have LY:=Yy (load_digC hr4 LB.out);clear hb4 hr4) | ((with_reducible refine YyL 26 (.tmp 6) ⟨w1.heap.size,0,none⟩ LX.out ?_ ?_ ?_);rfl;rfl) | ((with_reducible refine YyL 26 (.tmp 7) ⟨w3.heap.size,0,none⟩ LY.out ?_ ?_ ?_);rfl;rfl));have NA:=nums_len a.s;have NB:=nums_len b.s;have NBA:=nums_bytes a.s;have NBB:=nums_bytes b.s;have HNA:=Yy NA;have HNB:=Yy NB;clear NA NB;go_loopw [9] (fun i wr=>∃ k:Nat,k≤b.s.size∧i=.int .i64 k∧ClAt wr w.heap.size a∧ClAt wr (w.heap.size+1) b∧Below w.heap.size w wr∧V=lessL ((nums a.s).drop k) ((nums b.s).drop k)) (fun i _=>b.s.size - (intOf i).toNat)
   case atStart=>exact⟨0,Nat.zero_le _,rfl,U0.out,U1.out,B4.out,HT.out⟩
   case round=>
    obtain⟨k,hk,rfl,h0,h1,hbw,hf⟩:=hrel;have S0:=Yy h0;have S1:=Yy h1;have BW:=Yy hbw;have a2:=h0.c2;have b2:=h1.c2;clear h0 h1 hbw;by_cases hlt:k<b.s.size
    ·have hkb:k<(nums b.s).length:=by rw[HNB.out];exact hlt
     by_cases hla:k<a.s.size
     ·have hka:k<(nums a.s).length:=by rw[HNA.out];exact hla
      have IXA:=Yy (ix_str a.s k hka k rfl);have IXB:=Yy (ix_str b.s k hkb k rfl);rw[less_step hka hkb]at hf;have t1:¬ (a.s.size:Int)≤(k:Int):=by omega
      clear hka hkb;generalize (nums a.s).getD k 0=p at IXA hf;generalize (nums b.s).getD k 0=q at IXB hf;by_cases hpq:p=q
      ·subst hpq;have HXY:=Yy (rfl:p=p);have HF:Hid (V=lessL ((nums a.s).drop (k+1)) ((nums b.s).drop (k+1))):=Yy (by rw[hf];simp);clear hf;go_wp2_with fail;refine wp_region_G _ (by kernel_rfl) ?_;refine YGa 0 (some 46) rfl ?_;refine YGd 1 (some 47) _ rfl (fun w9 hSw=>by have q9:=S0.out.below hSw S0.out.lt;have q2:=q9.c2;go_simp;try with_reducible rfl) ?_;refine YGa 2 (some 48) rfl ?_;refine YGb 3 (some 49) rfl (fun w9 hSw=>IXA.out w9) ?_;refine YGa 4 (some 50) rfl ?_;refine YGd 5 (some 51) _ rfl (fun w9 hSw=>by have q9:=S1.out.below hSw S1.out.lt;have q2:=q9.c2;go_simp;try with_reducible rfl) ?_;refine YGa 6 (some 52) rfl ?_;refine YGb 7 (some 53) rfl (fun w9 hSw=>IXB.out w9) ?_;refine YGd 8 (some 54) (.bool false) rfl (fun w9 hSw=>by have q0:=HXY.out;go_simp) ?_;refine wpG_done (by kernel_rfl) ?_ _;intro w9 hSw _;have T0:=Yy (S0.out.below hSw S0.out.lt);have T1:=Yy (S1.out.below hSw S1.out.lt);have B9:=Yy (BW.out.trans (hSw.mono BW.out.size));clear hSw a2 b2;go_wp2;go_roundw
       case rel=>exact⟨k+1,by omega,by go_num,T0.out,T1.out,B9.out,HF.out⟩
       case measure=>simp[intOf];omega
      ·have HXY:=Yy hpq;have HF:Hid (V=decide (p<q)):=Yy (by rw[hf];simp[hpq]);clear hf;go_wp2_with fail;refine wp_region_G _ (by kernel_rfl) ?_;refine YGa 0 (some 46) rfl ?_;refine YGd 1 (some 47) _ rfl (fun w9 hSw=>by have q9:=S0.out.below hSw S0.out.lt;have q2:=q9.c2;go_simp;try with_reducible rfl) ?_;refine YGa 2 (some 48) rfl ?_;refine YGb 3 (some 49) rfl (fun w9 hSw=>IXA.out w9) ?_;refine YGa 4 (some 50) rfl ?_;refine YGd 5 (some 51) _ rfl (fun w9 hSw=>by have q9:=S1.out.below hSw S1.out.lt;have q2:=q9.c2;go_simp;try with_reducible rfl) ?_;refine YGa 6 (some 52) rfl ?_;refine YGb 7 (some 53) rfl (fun w9 hSw=>IXB.out w9) ?_;refine YGd 8 (some 54) (.bool true) rfl (fun w9 hSw=>by have q0:=HXY.out;go_simp) ?_;refine wpG_done (by kernel_rfl) ?_ _;intro w9 hSw _;have S0:=Yy (S0.out.below hSw S0.out.lt);have S1:=Yy (S1.out.below hSw S1.out.lt);have BW:=Yy (BW.out.trans (hSw.mono BW.out.size));clear hSw a2 b2 hpq;go_wp2_with fail;refine wp_region_G _ (by kernel_rfl) ?_;refine YGa 0 (some 55) rfl ?_;refine YGd 1 (some 56) _ rfl (fun w9 hSw=>by have q9:=S0.out.below hSw S0.out.lt;have q2:=q9.c2;go_simp;try with_reducible rfl) ?_;refine YGa 2 (some 57) rfl ?_;refine YGb 3 (some 58) rfl (fun w9 hSw=>IXA.out w9) ?_;refine YGa 4 (some 59) rfl ?_;refine YGd 5 (some 60) _ rfl (fun w9 hSw=>by have q9:=S1.out.below hSw S1.out.lt;have q2:=q9.c2;go_simp;try with_reducible rfl) ?_;refine YGa 6 (some 61) rfl ?_;refine YGb 7 (some 62) rfl (fun w9 hSw=>IXB.out w9) ?_
       refine YGa 8 (some 63) rfl ?_;refine YGa 9 (some 4) rfl ?_;refine wpG_done (by kernel_rfl) ?_ _;intro w10 hSw _;have B9:=Yy (BW.out.trans (hSw.mono BW.out.size));clear hSw;go_wp2;go_ret;exact⟨by rw[HF.out];rfl,B9.out⟩
     ·have t1:(a.s.size:Int)≤(k:Int):=by omega
      have HF:Hid (V=true):=Yy (by
       rw[hf,List.drop_eq_nil_of_le (by rw[HNA.out];omega),drop_at hkb]
       rfl)
      clear hf hkb;go_wp2;go_ret;exact⟨by rw[HF.out];rfl,BW.out⟩
    ·obtain rfl:k=b.s.size:=by omega
     have HF:Hid (V=false):=Yy (by
      rw[hf,List.drop_eq_nil_of_le (show (nums b.s).length≤b.s.size by rw[HNB.out];exact Nat.le_refl _)];cases (nums a.s).drop b.s.size<;>rfl)
     clear hf;go_wp2;go_ret;exact⟨by rw[HF.out];rfl,BW.out⟩
 ·have HV:Hid (cless a b=stLess a.n a.r b.n b.r):=Yy (by
   unfold cless;cases h1:stLess a.n a.r b.n b.r
   ·have h2:stLess b.n b.r a.n a.r=true:=by rw[st_no]at h1;rw[stLess_iff];omega
    rw[h2];simp only[Bool.false_eq_true,if_false,if_true]
   ·simp only[if_true])
  have HC:=Yy (rless_any a.n a.r b.n b.r);unfold st at HC;have hsn:=@same_pair' a.n a.r b.n b.r;rw[decide_eq_false hst]at hsn;clear ha hb hst;go_enter Tryz.func132,Tryz.ntmps132;go_wp2_with fail;refine (HC.out _).mono ?_;rintro e w1 ⟨rfl,hb1⟩;have B1:=Yy (HB.out.trans (hb1.mono HB.out.size));clear hb1;go_wp2;go_ret;exact⟨by rw[HV.out];rfl,B1.out⟩
end
section
open Go.RowKit WM
theorem rcjoin_any (a b:Cel) (w:World) (ha:a.s.size≤300) (hb:b.s.size≤300):Calls Tryz.prog 118 #[a.v,b.v] w fun e w'=>e=.returned (cjoin a b).v∧Below w.heap.size w w':=by
 have S0:=Yy (((ClAt.new w a).old (.cells #[.int .i64 b.n,.int .i64 b.r,.string b.s] 38)).old (.cells #[.int .i64 0,.int .i64 0,.string ⟨#[]⟩] 38));have s1:=(ClAt.new (w.alloc (.cells #[.int .i64 a.n,.int .i64 a.r,.string a.s] 38)) b).old (.cells #[.int .i64 0,.int .i64 0,.string ⟨#[]⟩] 38);rw[World.size_alloc]at s1;have S1:=Yy s1;have s2:=ClAt.new ((w.alloc (.cells #[.int .i64 a.n,.int .i64 a.r,.string a.s] 38)).alloc (.cells #[.int .i64 b.n,.int .i64 b.r,.string b.s] 38)) ⟨0,0,⟨#[]⟩⟩;rw[World.size_alloc,World.size_alloc]at s2;have S2:=Yy s2;have hB:=(((Below.refl w.heap.size w).alloc Nl (.cells #[.int .i64 a.n,.int .i64 a.r,.string a.s] 38)).alloc (by simp) (.cells #[.int .i64 b.n,.int .i64 b.r,.string b.s] 38)).alloc (by simp;omega) (.cells #[.int .i64 0,.int .i64 0,.string ⟨#[]⟩] 38);have B0:=Yy hB;have HL:=Yy (fun (X:World) (hX:Below w.heap.size w X)=>rcless_any a b X ha hb)
 conv=>congr;rfl;rfl;(unfold Cel.v)
 clear s1 s2 hB;cases hl:cless a b
 ·rw[hl]at HL;have HV:=Yy (show cjoin a b=a by simp[cjoin,hl]);clear hl;unfold Cel.v at HL;go_enter Tryz.func118,Tryz.ntmps118;go_wp2_with fail;refine (HL.out _ B0.out).mono ?_;rintro e w1 ⟨rfl,hb1⟩;have s0:=S0.out.below hb1 S0.out.lt;have s1:=S1.out.below hb1 S1.out.lt;have s2:=S2.out.below hb1 S2.out.lt;have bw:=B0.out.trans (hb1.mono B0.out.size);have a0:=s0.c0;have a1:=s0.c1;have a2:=s0.c2;have b0:=s1.c0;have b1:=s1.c1;have b2:=s1.c2;have c0:=s2.c0;have c1:=s2.c1;have c2:=s2.c2;have f0:=s2.fz 0;have f1:=s2.fz 1;have f2:=s2.fz 2;have S9:=Yy (s2.put a);have B9:=Yy (below_put3 bw (show w.heap.size≤w.heap.size+1+1 by omega) (.int .i64 a.n) (.int .i64 a.r) (.string a.s));clear s0 s1 s2 hb1 bw;go_wp2;refine bodyPost_ret (v:=a.v) ?_ rfl ⟨by rw[HV.out],?_⟩
  ·exact res_cl Tryz.results118 rfl S9.out
  ·exact B9.out
 ·rw[hl]at HL;have HV:=Yy (show cjoin a b=b by simp[cjoin,hl]);clear hl;unfold Cel.v at HL;go_enter Tryz.func118,Tryz.ntmps118;go_wp2_with fail;refine (HL.out _ B0.out).mono ?_;rintro e w1 ⟨rfl,hb1⟩;have s0:=S0.out.below hb1 S0.out.lt;have s1:=S1.out.below hb1 S1.out.lt;have s2:=S2.out.below hb1 S2.out.lt;have bw:=B0.out.trans (hb1.mono B0.out.size);have a0:=s0.c0;have a1:=s0.c1;have a2:=s0.c2;have b0:=s1.c0;have b1:=s1.c1;have b2:=s1.c2;have c0:=s2.c0;have c1:=s2.c1;have c2:=s2.c2;have f0:=s2.fz 0;have f1:=s2.fz 1;have f2:=s2.fz 2;have S9:=Yy (s2.put b);have B9:=Yy (below_put3 bw (show w.heap.size≤w.heap.size+1+1 by omega) (.int .i64 b.n) (.int .i64 b.r) (.string b.s));clear s0 s1 s2 hb1 bw;go_wp2;refine bodyPost_ret (v:=b.v) ?_ rfl ⟨by rw[HV.out],?_⟩
  ·exact res_cl Tryz.results118 rfl S9.out
  ·exact B9.out
end
end
section
section
open Go.RowKit WM
theorem rrfind_any (z:List Int) (n r:Int) (A:Option Addr) (len c:Nat) (fs:List Fld) (no:Int) (w:World) (hz:z.length=16) (hl:fs.length=len) (hln:len≤1000) (h:FsAt w A c fs):
  Calls Tryz.prog 117 #[rv z n r (.slice A len c),.int .i64 no] w (FindPost w (rfind fs no)):=by
 obtain⟨hc1,hc2,hc3,hcell⟩:=h;simp only[maxLen]at hc2;have HL:=Yy hl;have HC:=Yy hcell;have S0:=(RcAt.new w hz n r (.slice A len c)).old (.cells #[.int .i64 0,.int .i64 0,.string ⟨#[]⟩] 38);have c18:=S0.c18;have S1:=ClAt.new (w.alloc (.cells (rcells z n r (.slice A len c)) 36)) cel00;rw[World.size_alloc]at S1;have HB:=((Below.refl w.heap.size w).alloc Nl (.cells (rcells z n r (.slice A len c)) 36)).alloc (by simp) (.cells #[.int .i64 0,.int .i64 0,.string ⟨#[]⟩] 38);have H1:=Yy (And.intro S0 (And.intro S1 HB));have hlen:len≤c:=by omega
 clear hcell S0 S1 HB hc1 hl;unfold rv;go_enter Tryz.func117,Tryz.ntmps117;go_wp2;clear c18;go_loopw [6] (fun i wr=>∃ k:Nat,k≤len∧i=.int .i64 k∧RcAt wr w.heap.size z n r (.slice A len c)∧ClAt wr (w.heap.size+1) cel00∧Below w.heap.size w wr∧rfind fs no=rfind (fs.drop k) no) (fun i _=>len - (intOf i).toNat)
 case atStart=>exact⟨0,Nat.zero_le _,rfl,H1.out.1,H1.out.2.1,H1.out.2.2,rfl⟩
 case round=>
  obtain⟨k,hk,rfl,hr,hs,hb,hf⟩:=hrel;have d18:=hr.c18;have HR:=Yy hr;by_cases hlt:k<len
  ·have t1:(k:Int)<(len:Int):=by omega
   obtain⟨b,off,rfl,hbB,hcc⟩:=HC.out (by rw[HL.out];omega);obtain⟨c0,c1,c2,c3⟩:=hcc k (by rw[HL.out];exact hlt);have c0:=(hb.cell (p:=⟨b,off+k*4,none⟩) hbB).trans c0;have c1:=(hb.cell (p:=⟨b,off+k*4+1,none⟩) hbB).trans c1;have c2:=(hb.cell (p:=⟨b,off+k*4+2,none⟩) hbB).trans c2;have c3:=(hb.cell (p:=⟨b,off+k*4+3,none⟩) hbB).trans c3;have IX:=ix_fld b off len c k hlt k rfl;rw[rfind_drop (by rw[HL.out];exact hlt)]at hf;generalize fs.getD k fld0=f at c0 c1 c2 c3 hf;obtain⟨m,x⟩:=f;dsimp only at c0 c1 c2 c3 hf;generalize off+k*4=o at c0 c1 c2 c3 IX;clear hcc;by_cases he:m=no
   ·subst he;have d0:=hs.c0;have d1:=hs.c1;have d2:=hs.c2;have e0:=hs.fz 0;have e1:=hs.fz 1;have e2:=hs.fz 2;have HP:=Yy (hs.put x);have HQ:=Yy (below_put3 hb (show w.heap.size≤w.heap.size+1 by omega) (.int .i64 x.n) (.int .i64 x.r) (.string x.s));rw[if_pos rfl]at hf;have HF:=Yy hf;clear hs hb hf hr;go_wp2;refine bodyPost_ret (v:=.tuple #[x.v,.bool true]) ?_ rfl ⟨?_,HQ.out⟩
    ·exact res_cl2 Tryz.results117 rfl HP.out
    ·rw[HF.out];rfl
   ·rw[if_neg he]at hf;have HF:=Yy hf;have HO:=Yy hs;have HBO:=Yy hb;clear hs hb hf hr;go_wp2;go_roundw
    case rel=>exact⟨k+1,by omega,by go_num,HR.out,HO.out,HBO.out,HF.out⟩
    case measure=>simp[intOf];omega
  ·obtain rfl:k=len:=by omega
   have e0:=hs.fz 0;have e1:=hs.fz 1;have e2:=hs.fz 2;have d0:=hs.c0;have d1:=hs.c1;have d2:=hs.c2;have HP:=Yy (hs.put cel00);have HQ:=Yy (below_put3 hb (show w.heap.size≤w.heap.size+1 by omega) (.int .i64 0) (.int .i64 0) (.string ⟨#[]⟩));rw[List.drop_eq_nil_of_le (by rw[HL.out];exact Nat.le_refl _),rfind_nil]at hf;have HF:=Yy hf;clear hs hb hf hr;go_wp2;refine bodyPost_ret (v:=.tuple #[cel00.v,.bool false]) ?_ rfl ⟨?_,HQ.out⟩
   ·exact res_cl2 Tryz.results117 rfl HP.out
   ·rw[HF.out];rfl
end
section
open Go.RowKit WM
theorem Tta43 {p:Prop} (h:p:=by
  go_enter Tryz.func44,Tryz.ntmps44;go_wp2_with (first | ((with_reducible refine YyL 31 (.tmp 6) ⟨w.heap.size,0,none⟩ L1.out ?_ ?_ ?_);rfl;rfl) | ((with_reducible refine YyL 31 (.tmp 8) ⟨(w.heap.size+1),0,none⟩ L2.out ?_ ?_ ?_);rfl;rfl));go_ret;exact⟨by rw[HV.out];rfl,HB.out⟩
 ):p:=h
theorem rrsame_any (z1:List Int) (n1 r1:Int) (A1:Option Addr) (l1 cap1:Nat) (fs:List Fld) (z2:List Int) (n2 r2:Int) (A2:Option Addr) (l2 cap2:Nat) (gs:List Fld) (w:World)
  (hz1:z1.length=16) (hz2:z2.length=16) (hb1:AllBytes z1) (hb2:AllBytes z2) (hl1:fs.length=l1) (hl2:gs.length=l2) (hln:l1≤1000) (h1:FsAt w A1 cap1 fs) (h2:FsAt w A2 cap2 gs):
  Calls Tryz.prog 44 #[rv z1 n1 r1 (.slice A1 l1 cap1),rv z2 n2 r2 (.slice A2 l2 cap2)] w fun e w'=>e=.returned (.bool (rsame z1 n1 r1 fs z2 n2 r2 gs))∧Below w.heap.size w w':=by
 have S1:=(RcAt.new w hz1 n1 r1 (.slice A1 l1 cap1)).old (.cells (rcells z2 n2 r2 (.slice A2 l2 cap2)) 36);have S2:=RcAt.new (w.alloc (.cells (rcells z1 n1 r1 (.slice A1 l1 cap1)) 36)) hz2 n2 r2 (.slice A2 l2 cap2);rw[World.size_alloc]at S2;have HB:=((Below.refl w.heap.size w).alloc Nl (.cells (rcells z1 n1 r1 (.slice A1 l1 cap1)) 36)).alloc (by simp) (.cells (rcells z2 n2 r2 (.slice A2 l2 cap2)) 36);obtain⟨hc1,hc2,hc3,hcell1⟩:=h1;obtain⟨gc1,gc2,gc3,hcell2⟩:=h2;simp only[maxLen]at hc2 gc2;have HC1:=Yy hcell1;have HC2:=Yy hcell2;have HL1:=Yy hl1;have HL2:=Yy hl2;have hcl1:l1≤cap1:=by omega
 have hcl2:l2≤cap2:=by omega
 have HE:=eq_id hb1 hb2 hz1 hz2;have L1:=Yy (load_id S1);have L2:=Yy (load_id S2);have a6:=S1.c16;have a7:=S1.c17;have a8:=S1.c18;have b6:=S2.c16;have b7:=S2.c17;have b8:=S2.c18;have HB:=Yy HB;have H1:=Yy S1;have H2:=Yy S2;clear S1 S2 hcell1 hcell2 hl1 hl2 hc1 gc1;have SP:=@same_pair n1 r1 n2 r2;have HV:Hid (rsame z1 n1 r1 fs z2 n2 r2 gs=((z1 == z2) && decide (n1=n2∧r1=r2) && decide (fs=gs))):=Yy rfl;generalize rsame z1 n1 r1 fs z2 n2 r2 gs=V at *;unfold rv;cases hz:(z1 == z2)
 ·rw[hz]at HE HV;simp only[Bool.false_and]at HV;clear hz;exact Tta43
 ·rw[hz]at HE HV;simp only[Bool.true_and]at HV;clear hz;cases hd:decide (n1=n2∧r1=r2)
  ·rw[hd]at SP HV;simp only[Bool.false_and]at HV;clear hd;exact Tta43
  ·rw[hd]at SP HV;simp only[Bool.true_and]at HV;clear hd;by_cases hl:l1=l2
   ·subst hl;have HV0:=Yy (show V=decide (fs.drop 0=gs.drop 0) from HV.out);go_enter Tryz.func44,Tryz.ntmps44;go_wp2_with (first | ((with_reducible refine YyL 31 (.tmp 6) ⟨w.heap.size,0,none⟩ L1.out ?_ ?_ ?_);rfl;rfl) | ((with_reducible refine YyL 31 (.tmp 8) ⟨(w.heap.size+1),0,none⟩ L2.out ?_ ?_ ?_);rfl;rfl));clear a6 a7 a8 b6 b7 b8;go_loopw [5] (fun i wr=>∃ k:Nat,k≤l1∧i=.int .i64 k∧RcAt wr w.heap.size z1 n1 r1 (.slice A1 l1 cap1)∧RcAt wr (w.heap.size+1) z2 n2 r2 (.slice A2 l1 cap2)∧Below w.heap.size w wr∧V=decide (fs.drop k=gs.drop k)) (fun i _=>l1 - (intOf i).toNat)
    case atStart=>exact⟨0,Nat.zero_le _,rfl,H1.out,H2.out,HB.out,HV0.out⟩
    case round=>
     obtain⟨k,hk,rfl,hr1,hr2,hb,hf⟩:=hrel;have a8:=hr1.c18;have R1:=Yy hr1;have R2:=Yy hr2;by_cases hlt:k<l1
     ·have t1:(k:Int)<(l1:Int):=by omega
      obtain⟨b1,off1,hA1,hB1,hcc1⟩:=HC1.out (by rw[HL1.out];omega);obtain⟨c0,c1,c2,c3⟩:=hcc1 k (by rw[HL1.out];exact hlt);have IX1:=Yy (fun w9=>ix_fld b1 off1 l1 cap1 k hlt k rfl w9);obtain⟨b2,off2,hA2,hB2,hcc2⟩:=HC2.out (by rw[HL2.out];omega);obtain⟨d0,d1,d2,d3⟩:=hcc2 k (by rw[HL2.out];exact hlt);have IX2:=Yy (fun w9=>ix_fld b2 off2 l1 cap2 k hlt k rfl w9);rw[← hA1]at IX1;rw[← hA2]at IX2;have c0:=(hb.cell (p:=⟨b1,off1+k*4,none⟩) hB1).trans c0;have c1:=(hb.cell (p:=⟨b1,off1+k*4+1,none⟩) hB1).trans c1;have c2:=(hb.cell (p:=⟨b1,off1+k*4+2,none⟩) hB1).trans c2;have c3:=(hb.cell (p:=⟨b1,off1+k*4+3,none⟩) hB1).trans c3;have d0:=(hb.cell (p:=⟨b2,off2+k*4,none⟩) hB2).trans d0;have d1:=(hb.cell (p:=⟨b2,off2+k*4+1,none⟩) hB2).trans d1;have d2:=(hb.cell (p:=⟨b2,off2+k*4+2,none⟩) hB2).trans d2;have d3:=(hb.cell (p:=⟨b2,off2+k*4+3,none⟩) hB2).trans d3;have hB1:=Nat.lt_of_lt_of_le hB1 hb.size;have hB2:=Nat.lt_of_lt_of_le hB2 hb.size;have hdr:=eq_drop (fs:=fs) (gs:=gs) (k:=k) (by rw[HL1.out];exact hlt) (by rw[HL2.out];exact hlt);generalize fs.getD k fld0=f at c0 c1 c2 c3 hdr;generalize gs.getD k fld0=g at d0 d1 d2 d3 hdr;generalize off1+k*4=o1 at c0 c1 c2 c3 IX1;generalize off2+k*4=o2 at d0 d1 d2 d3 IX2;clear hcc1 hcc2 hA1 hA2;have HBR:=Yy hb;by_cases he:f=g
      ·subst he;have HEQ:=Yy (fl_same f);have HF:=Yy (show V=decide (fs.drop (k+1)=gs.drop (k+1)) by rw[hf,decide_eq_decide,hdr];simp);clear hf hdr hb hr1 hr2;go_wp2_with fail;refine wp_region_G _ (by kernel_rfl) ?_;refine YGa 0 (some 34) rfl ?_;refine YGb 1 (some 35) rfl (fun w9 hSw=>(R1.out.below hSw R1.out.lt).c18) ?_;refine YGa 2 (some 36) rfl ?_;refine YGb 3 (some 37) rfl (fun w9 hSw=>IX1.out w9) ?_;refine YGd 4 (some 38) _ rfl (fun w9 hSw=>by have q0:=(hSw.cell (p:=⟨b1,o1,none⟩) hB1).trans c0;have q1:=(hSw.cell (p:=⟨b1,o1+1,none⟩) hB1).trans c1;have q2:=(hSw.cell (p:=⟨b1,o1+2,none⟩) hB1).trans c2;have q3:=(hSw.cell (p:=⟨b1,o1+3,none⟩) hB1).trans c3;go_simp;try with_reducible rfl) ?_;refine YGa 5 (some 39) rfl ?_;refine YGb 6 (some 40) rfl (fun w9 hSw=>(R2.out.below hSw R2.out.lt).c18) ?_;refine YGa 7 (some 41) rfl ?_;refine YGb 8 (some 42) rfl (fun w9 hSw=>IX2.out w9) ?_;refine YGd 9 (some 43) _ rfl (fun w9 hSw=>by have q0:=(hSw.cell (p:=⟨b2,o2,none⟩) hB2).trans d0;have q1:=(hSw.cell (p:=⟨b2,o2+1,none⟩) hB2).trans d1;have q2:=(hSw.cell (p:=⟨b2,o2+2,none⟩) hB2).trans d2;have q3:=(hSw.cell (p:=⟨b2,o2+3,none⟩) hB2).trans d3;go_simp;try with_reducible rfl) ?_;refine YGb 10 (some 44) rfl (fun w9 hSw=>HEQ.out w9) ?_;refine wpG_done (by kernel_rfl) ?_ _;intro w9 hSw _;have B9:=Yy (HBR.out.trans (hSw.mono HBR.out.size));have R19:=Yy (R1.out.below hSw R1.out.lt);have R29:=Yy (R2.out.below hSw R2.out.lt);clear hSw c0 c1 c2 c3 d0 d1 d2 d3 a8;go_wp2;go_roundw
       case rel=>exact⟨k+1,by omega,by go_num,R19.out,R29.out,B9.out,HF.out⟩
       case measure=>simp[intOf];omega
      ·have HNE:=Yy he;have HF:=Yy (show V=false by rw[hf,decide_eq_false_iff_not,hdr];simp[he]);clear hf hdr hb he hr1 hr2;go_wp2_with fail;refine wp_region_G _ (by kernel_rfl) ?_;refine YGa 0 (some 34) rfl ?_;refine YGb 1 (some 35) rfl (fun w9 hSw=>(R1.out.below hSw R1.out.lt).c18) ?_;refine YGa 2 (some 36) rfl ?_;refine YGb 3 (some 37) rfl (fun w9 hSw=>IX1.out w9) ?_;refine YGd 4 (some 38) _ rfl (fun w9 hSw=>by have q0:=(hSw.cell (p:=⟨b1,o1,none⟩) hB1).trans c0;have q1:=(hSw.cell (p:=⟨b1,o1+1,none⟩) hB1).trans c1;have q2:=(hSw.cell (p:=⟨b1,o1+2,none⟩) hB1).trans c2;have q3:=(hSw.cell (p:=⟨b1,o1+3,none⟩) hB1).trans c3;go_simp;try with_reducible rfl) ?_;refine YGa 5 (some 39) rfl ?_;refine YGb 6 (some 40) rfl (fun w9 hSw=>(R2.out.below hSw R2.out.lt).c18) ?_;refine YGa 7 (some 41) rfl ?_;refine YGb 8 (some 42) rfl (fun w9 hSw=>IX2.out w9) ?_;refine YGd 9 (some 43) _ rfl (fun w9 hSw=>by have q0:=(hSw.cell (p:=⟨b2,o2,none⟩) hB2).trans d0;have q1:=(hSw.cell (p:=⟨b2,o2+1,none⟩) hB2).trans d1;have q2:=(hSw.cell (p:=⟨b2,o2+2,none⟩) hB2).trans d2;have q3:=(hSw.cell (p:=⟨b2,o2+3,none⟩) hB2).trans d3;go_simp;try with_reducible rfl) ?_;refine YGd 10 (some 44) _ rfl (fun w9 hSw=>by go_simp;rw[fl_if HNE.out];try with_reducible rfl) ?_;refine wpG_done (by kernel_rfl) ?_ _;intro w9 hSw _;have B9:=Yy (HBR.out.trans (hSw.mono HBR.out.size));clear hSw c0 c1 c2 c3 d0 d1 d2 d3 a8;go_wp2;go_ret;exact⟨by rw[HF.out];rfl,B9.out⟩
     ·have t1:¬ (k:Int)<(l1:Int):=by omega
      obtain rfl:k=l1:=by omega
      rw[List.drop_eq_nil_of_le (by rw[HL1.out];exact Nat.le_refl _),List.drop_eq_nil_of_le (by rw[HL2.out];exact Nat.le_refl _)]at hf;have HF:=Yy hf;have HB:=Yy hb;clear hf hb hr1 hr2;go_wp2;go_ret;exact⟨by rw[HF.out];simp,HB.out⟩
   ·have HF:=Yy (show V=false by rw[HV.out,decide_eq_false_iff_not];intro e;apply hl;rw[← HL1.out,← HL2.out,e]);have hne:¬ (l1:Int)=(l2:Int):=by omega
    go_enter Tryz.func44,Tryz.ntmps44;go_wp2_with (first | ((with_reducible refine YyL 31 (.tmp 6) ⟨w.heap.size,0,none⟩ L1.out ?_ ?_ ?_);rfl;rfl) | ((with_reducible refine YyL 31 (.tmp 8) ⟨(w.heap.size+1),0,none⟩ L2.out ?_ ?_ ?_);rfl;rfl));go_ret;exact⟨by rw[HF.out];rfl,HB.out⟩
end
section
open Go.RowKit WM
theorem build_st0 (w:World):(Instr.build 33 #[]).run Tryz.prog w=.ok (.agg #[.int .i64 0,.int .i64 0]) w:=run_build w _ _ _ (by kernel_rfl)
theorem same_pairM {n r:Int} (w:World):(Op.equalIn 10000 33 (.agg #[.int .i64 n,.int .i64 r]) (.agg #[.int .i64 n,.int .i64 r])).run Tryz.prog w=.ok true w:=by rw[same_pair];simp
theorem Tta38 {p:Prop} (h:p:=by
  clear hm;go_enter Tryz.func37,Tryz.ntmps37;go_wp2_with fail;refine (HM0.out _).mono ?_;rintro e w1 ⟨rfl,hb1⟩;have s2:=S0.out.below hb1 S0.out.lt;have d0:=s2.c16;have d1:=s2.c17;have d2:=s2.c18;have bw:=Yy (HB.out.trans (hb1.mono HB.out.size));have S2:=Yy s2;clear hb1 s2;go_wp2;go_ret;exact⟨by rw[HV.out];rfl,bw.out⟩
 ):p:=h
theorem Tta63 {p:Prop} (h:p:=by
  rw[List.drop_eq_nil_of_le (by rw[HL.out];exact Nat.le_refl _),okFrom]at hf;have HF:=Yy hf;have HB:=Yy hb;clear hf hb hr;go_wp2;go_ret;exact⟨by rw[HF.out];rfl,HB.out⟩
 ):p:=h
theorem Ttb19 {p:Prop} (h:p:=by
  have HB3:=Yy (HB2.out.trans (hb3.mono HB2.out.size));clear hb3 F3 r16 r17 g1 g2;go_wp2;go_ret;exact⟨by rw[HF.out];rfl,HB3.out⟩
 ):p:=h
theorem Tta22 {p:Prop} (h:p:=by
  go_wp2_with fail;refine HM.out.mono ?_;rintro e w2 ⟨rfl,hb2⟩;have R2:=R1.out.below hb2 R1.out.lt;have F2:=F1.out.below hb2 F1.out.lt;have B2:=B1.out.trans (hb2.mono B1.out.size);have r16:=R2.c16;have r17:=R2.c17;have g1:=F2.c1;have g2:=F2.c2;have HR2:=Yy R2;have HF2:=Yy F2;have HB2:=Yy B2;clear hb2 R2 F2 B2;go_wp2_with fail;refine (HS.out w2).mono ?_;rintro e w3 ⟨rfl,hb3⟩;have F3:=HF2.out.below hb3 HF2.out.lt;have g0:=F3.c0;have HR3:=Yy (HR2.out.below hb3 HR2.out.lt);exact Ttb19
 ):p:=h
theorem Tta23 {p:Prop} (h:p:=by
  clear hf hcm hsl;go_wp2_with fail;refine HM.out.mono ?_;rintro e w2 ⟨rfl,hb2⟩;have R2:=R1.out.below hb2 R1.out.lt;have F2:=F1.out.below hb2 F1.out.lt;have B2:=B1.out.trans (hb2.mono B1.out.size);have r16:=R2.c16;have r17:=R2.c17;have g1:=F2.c1;have g2:=F2.c2;have HR2:=Yy R2;have HF2:=Yy F2;have HB2:=Yy B2;clear hb2 R2 F2 B2;go_wp2_with fail;refine (HS.out w2).mono ?_;rintro e w3 ⟨rfl,hb3⟩;have F3:=HF2.out.below hb3 HF2.out.lt;have g0:=F3.c0;exact Ttb19
 ):p:=h
theorem rrmay_any (z:List Int) (n r:Int) (A:Option Addr) (len c:Nat) (fs:List Fld) (w:World) (hz:z.length=16) (hl:fs.length=len) (hln:len≤1000) (h:FsAt w A c fs):
  Calls Tryz.prog 37 #[rv z n r (.slice A len c)] w (MayPost w (rmay n r fs)):=by
 obtain⟨hc1,hc2,hc3,hcell⟩:=h;simp only[maxLen]at hc2;have HL:=Yy hl;have HC:=Yy hcell;have S0:=Yy (RcAt.new w hz n r (.slice A len c));have HB:=Yy ((Below.refl w.heap.size w).alloc Nl (.cells (rcells z n r (.slice A len c)) 36));have HM0:=Yy (rdmay_any n r);have hlen:len≤c:=by omega
 have s0:=S0.out.c16;have s1:=S0.out.c17;have hbs:=build_st0;clear hcell hc1 hl;unfold rv;unfold st at HM0;cases hm:may n r
 ·have HV:=Yy (show rmay n r fs=false by simp[rmay,hm]);rw[hm]at HM0;exact Tta38
 ·rw[hm]at HM0;by_cases h0:len=0∧n=0∧r=0
  ·obtain⟨rfl,rfl,rfl⟩:=h0;have HV:=Yy (show rmay 0 0 fs=false by simp[rmay,hm,HL.out]);have sp:=fun w9=>(same_pairM (n:=0) (r:=0) w9);exact Tta38
  ·have HV2:=Yy (show rmay n r fs=okFrom n r 0 (fs.drop 0) by
    simp only[rmay,hm,HL.out,Bool.true_and,List.drop_zero];have:(decide (len=0) && decide (n=0) && decide (r=0))=false:=by
     simp only[Bool.and_eq_false_iff,decide_eq_false_iff_not];omega
    rw[this]
    rfl)
   generalize rmay n r fs=V at *;by_cases hl0:len=0
   ·subst hl0;have hne:=st_ne (n:=n) (r:=r) (m:=0) (s:=0) (by omega);clear hm h0;go_enter Tryz.func37,Tryz.ntmps37;go_wp2_with fail;refine (HM0.out _).mono ?_;rintro e w1 ⟨rfl,hb1⟩;have s2:=S0.out.below hb1 S0.out.lt;have d0:=s2.c16;have d1:=s2.c17;have d2:=s2.c18;have bw:=Yy (HB.out.trans (hb1.mono HB.out.size));have S2:=Yy s2;clear hb1 s2;go_wp2;clear d0 d1 d2 s0 s1;go_loopw [4,5] (fun v i wr=>∃ (k:Nat) (m:Int),k≤0∧i=.int .i64 k∧v=.int .i64 (m - 1)∧0≤m∧m≤8∧RcAt wr w.heap.size z n r (.slice A 0 c)∧Below w.heap.size w wr∧V=okFrom n r m (fs.drop k)) (fun _ i _=>0 - (intOf i).toNat)
    case atStart=>exact⟨0,0,Nat.zero_le _,rfl,rfl,by omega,by omega,S2.out,bw.out,HV2.out⟩
    case round=>
     obtain⟨k,m,hk,rfl,rfl,hm0,hm8,hr,hb,hf⟩:=hrel;have d18:=hr.c18;by_cases hlt:k<0
     ·exact absurd hlt (by omega)
     ·have t1:¬ (k:Int)<(0:Int):=by omega
      obtain rfl:k=0:=by omega
      exact Tta63
   ·have hln0:¬ (len:Int)=0:=by omega
    clear hm h0;go_enter Tryz.func37,Tryz.ntmps37;go_wp2_with fail;refine (HM0.out _).mono ?_;rintro e w1 ⟨rfl,hb1⟩;have s2:=S0.out.below hb1 S0.out.lt;have d0:=s2.c16;have d1:=s2.c17;have d2:=s2.c18;have bw:=Yy (HB.out.trans (hb1.mono HB.out.size));have S2:=Yy s2;clear hb1 s2;go_wp2;clear d0 d1 d2 s0 s1;go_loopw [4,5] (fun v i wr=>∃ (k:Nat) (m:Int),k≤len∧i=.int .i64 k∧v=.int .i64 (m - 1)∧0≤m∧m≤8∧RcAt wr w.heap.size z n r (.slice A len c)∧Below w.heap.size w wr∧V=okFrom n r m (fs.drop k)) (fun _ i _=>len - (intOf i).toNat)
    case atStart=>exact⟨0,0,Nat.zero_le _,rfl,rfl,by omega,by omega,S2.out,bw.out,HV2.out⟩
    case round=>
     obtain⟨k,m,hk,rfl,rfl,hm0,hm8,hr,hb,hf⟩:=hrel;have d18:=hr.c18;by_cases hlt:k<len
     ·have t1:(k:Int)<(len:Int):=by omega
      obtain⟨b,off,hA,hbB,hcc⟩:=HC.out (by rw[HL.out];omega);obtain⟨c0,c1,c2,c3⟩:=hcc k (by rw[HL.out];exact hlt);have c0:=(hb.cell (p:=⟨b,off+k*4,none⟩) hbB).trans c0;have c1:=(hb.cell (p:=⟨b,off+k*4+1,none⟩) hbB).trans c1;have c2:=(hb.cell (p:=⟨b,off+k*4+2,none⟩) hbB).trans c2;have c3:=(hb.cell (p:=⟨b,off+k*4+3,none⟩) hbB).trans c3;have IX:=ix_fld b off len c k hlt k rfl;rw[← hA]at IX;rw[okFrom_drop n r m (by rw[HL.out];exact hlt)]at hf;generalize fs.getD k fld0=f at c0 c1 c2 c3 hf;generalize off+k*4=o at c0 c1 c2 c3 IX;clear hcc hA;have F1:=Yy (FlAt.new wr f);have R1:=Yy (hr.old (.cells #[.int .i64 f.no,.int .i64 f.c.n,.int .i64 f.c.r,.string f.c.s] 59));have B1:=Yy (hb.alloc hb.size (.cells #[.int .i64 f.no,.int .i64 f.c.n,.int .i64 f.c.r,.string f.c.s] 59));have f1:=F1.out.c1;have f2:=F1.out.c2;have f3:=F1.out.c3;have HM:=Yy (rcmay_any f.c (wr.alloc (.cells #[.int .i64 f.no,.int .i64 f.c.n,.int .i64 f.c.r,.string f.c.s] 59)));unfold Cel.v at HM;have HS:=Yy (rless_any n r f.c.n f.c.r);unfold st at HS;clear hr hb;cases hcm:cmay f.c
      ·rw[hcm]at HM hf;have HF:=Yy (show V=false by rw[hf];simp);clear hf hcm;exact Tta22
      ·rw[hcm]at HM hf;cases hsl:stLess n r f.c.n f.c.r
       ·rw[hsl]at HS hf;have HF:=Yy (show V=false by rw[hf];simp);clear hf hcm hsl;exact Tta22
       ·rw[hsl]at HS hf;by_cases h1:m≤f.no
        ·have t2:¬ f.no≤m - 1:=by omega
         by_cases h2:f.no<8
         ·have t3:¬ 8≤f.no:=by omega
          have HF:=Yy (show V=okFrom n r (f.no+1) (fs.drop (k+1)) by rw[hf];simp[h1,h2]);clear hf hcm hsl;go_wp2_with fail;refine HM.out.mono ?_;rintro e w2 ⟨rfl,hb2⟩;have R2:=R1.out.below hb2 R1.out.lt;have F2:=F1.out.below hb2 F1.out.lt;have B2:=B1.out.trans (hb2.mono B1.out.size);have r16:=R2.c16;have r17:=R2.c17;have g1:=F2.c1;have g2:=F2.c2;have HR2:=Yy R2;have HF2:=Yy F2;have HB2:=Yy B2;clear hb2 R2 F2 B2;go_wp2_with fail;refine (HS.out w2).mono ?_;rintro e w3 ⟨rfl,hb3⟩;have F3:=HF2.out.below hb3 HF2.out.lt;have g0:=F3.c0;have HR3:=Yy (HR2.out.below hb3 HR2.out.lt);have HB3:=Yy (HB2.out.trans (hb3.mono HB2.out.size));clear hb3 F3 r16 r17 g1 g2;go_wp2;go_roundw
          case rel=>exact⟨k+1,f.no+1,by omega,by go_num,by rw[show f.no+1 - 1=f.no by omega],by omega,by omega,HR3.out,HB3.out,HF.out⟩
          case measure=>simp[intOf];omega
         ·have t3:8≤f.no:=by omega
          have HF:=Yy (show V=false by rw[hf];simp[h2]);exact Tta23
        ·have t2:f.no≤m - 1:=by omega
         have HF:=Yy (show V=false by rw[hf];simp[h1]);exact Tta23
     ·have t1:¬ (k:Int)<(len:Int):=by omega
      obtain rfl:k=len:=by omega
      exact Tta63
end
end
section
open Go.RowKit WM
theorem bsame_drop {xs ys:List RcA} {k:Nat} (h1:k<xs.length) (h2:k<ys.length):bsame ((xs.drop k).map (·.R)) ((ys.drop k).map (·.R)) =
  ((xs.getD k rcA0).R.same (ys.getD k rcA0).R && bsame ((xs.drop (k+1)).map (·.R)) ((ys.drop (k+1)).map (·.R))):=by
 rw[List.drop_eq_getElem_cons h1,List.drop_eq_getElem_cons h2,List.map_cons,List.map_cons,bsame];simp only[List.getD,List.getElem?_eq_getElem h1,List.getElem?_eq_getElem h2,Option.getD_some]
theorem beqf_any (A1 A2:Option Addr) (len1 len2 c1 c2:Nat) (xs ys:List RcA) (w:World) (hl1:xs.length=len1) (hl2:ys.length=len2) (h1:RsAt w A1 c1 xs) (h2:RsAt w A2 c2 ys):
  Calls Tryz.prog 55 #[.slice A1 len1 c1,.slice A2 len2 c2,.func (.func 56) #[] #[]] w fun e w'=>e=.returned (.bool (bsame (xs.map (·.R)) (ys.map (·.R))))∧Below w.heap.size w w':=by
 have HR1:=Yy (fun i (hi:i<xs.length)=>RsAt.rv h1 hi);have HR2:=Yy (fun i (hi:i<ys.length)=>RsAt.rv h2 hi);obtain⟨hc1,hm1,hn1,hcell1,_⟩:=h1;obtain⟨hc2,hm2,hn2,hcell2,_⟩:=h2;simp only[maxLen]at hm1 hm2;have HL1:=Yy hl1;have HC1:=Yy hcell1;have HL2:=Yy hl2;have HC2:=Yy hcell2;have hlen1:len1≤c1:=by omega
 have hlen2:len2≤c2:=by omega
 have hz:=zeroX;clear hcell1 hcell2 hc1 hc2 hl1 hl2 hn1 hn2;by_cases hl:len1=len2
 ·subst hl;have HV:=Yy (show bsame (xs.map (·.R)) (ys.map (·.R))=bsame ((xs.drop 0).map (·.R)) ((ys.drop 0).map (·.R)) by rw[List.drop_zero,List.drop_zero]);have HB0:=Yy (Below.refl w.heap.size w);generalize bsame (xs.map (·.R)) (ys.map (·.R))=V at HV ⊢;go_enter Tryz.func55,Tryz.ntmps55;go_wp2;go_loopw [17] (fun i wr=>∃ k:Nat,k≤len1∧i=.int .i64 k∧Below w.heap.size w wr∧V=bsame ((xs.drop k).map (·.R)) ((ys.drop k).map (·.R))) (fun i _=>len1 - (intOf i).toNat)
  case atStart=>exact⟨0,Nat.zero_le _,rfl,HB0.out,HV.out⟩
  case round=>
   obtain⟨k,hk,rfl,hb,hf⟩:=hrel;by_cases hlt:k<len1
   ·obtain⟨b1,off1,rfl,hB1,hcc1⟩:=HC1.out (by rw[HL1.out];omega);obtain⟨b2,off2,rfl,hB2,hcc2⟩:=HC2.out (by rw[HL2.out];omega);have hx:=(hcc1 k (by rw[HL1.out];exact hlt)).same (hb.block b1 hB1);have hy:=(hcc2 k (by rw[HL2.out];exact hlt)).same (hb.block b2 hB2);have IX1:=ix_rec b1 off1 len1 c1 k hlt k rfl;have IX2:=ix_rec b2 off2 len1 c2 k hlt k rfl;have hvx:=(HR1.out k (by rw[HL1.out];exact hlt)).below hb Nl;have hvy:=(HR2.out k (by rw[HL2.out];exact hlt)).below hb Nl;have hdr:=bsame_drop (xs:=xs) (ys:=ys) (k:=k) (by rw[HL1.out];exact hlt) (by rw[HL2.out];exact hlt);have hB2:=Nat.lt_of_lt_of_le hB2 hb.size;rw[hdr]at hf;generalize xs.getD k rcA0=x at *;generalize ys.getD k rcA0=y at *;generalize off1+k*19=o1 at *;generalize off2+k*19=o2 at *;have LX:=Yy hx.load;have HY:=Yy hy;have HVX:=Yy hvx;have HVY:=Yy hvy;have ZX:=Yy hvx.len;have ZY:=Yy hvy.len;have HBB:=Yy hb;clear hcc1 hcc2 hx hy hvx hvy hdr hb;cases hs:x.R.same y.R
    ·rw[hs,Bool.false_and]at hf;have HS:=Yy hs;have HF:=Yy hf;clear hs hf;go_wp2_with (first | ((with_reducible refine YyL 36 (.tmp 20) ⟨b1,o1,none⟩ LX.out ?_ ?_ ?_);rfl;rfl) | ((with_reducible refine wpList_store_newx (o:=⟨none,.store 36 (.tmp 8) (.tmp 21),_,_,_,_⟩) (w:=wr) ?_ (.tmp 8) (.tmp 21) ?_ wr.heap.size ?_ ?_ x ?_ ZX.out ?_);rfl;rfl;rfl;rfl;rfl;intro w2 hb2 hx2 hs2;have X2:=Yy hx2;have HW2:=Yy hb2;have LY:=Yy (HY.out.same (hb2.block b2 hB2)).load;clear hx2 hb2 hs2) | ((with_reducible refine YyL 36 (.tmp 24) ⟨b2,o2,none⟩ LY.out ?_ ?_ ?_);rfl;rfl) | ((with_reducible refine wpList_store_newx (o:=⟨none,.store 36 (.tmp 9) (.tmp 25),_,_,_,_⟩) (w:=w2) ?_ (.tmp 9) (.tmp 25) ?_ w2.heap.size ?_ ?_ y ?_ ZY.out ?_);rfl;rfl;rfl;rfl;rfl;intro w3 hb3 hy3 hs3;have HB3:=Yy (HW2.out.trans (hb3.mono HW2.out.size));have L27:=Yy (X2.out.below hb3 X2.out.lt).load;have L28:=Yy hy3.load;have HC:=Yy (xsame_any x y w3 (HVX.out.below HB3.out Nl) (HVY.out.below HB3.out Nl));rw[HS.out]at HC;clear hb3 hy3 hs3) | ((with_reducible refine YyL 36 (.tmp 8) ⟨wr.heap.size,0,none⟩ L27.out ?_ ?_ ?_);rfl;rfl) | ((with_reducible refine YyL 36 (.tmp 9) ⟨w2.heap.size,0,none⟩ L28.out ?_ ?_ ?_);rfl;rfl));refine HC.out.mono ?_;rintro e w4 ⟨rfl,hb4⟩;have B4:=Yy (HBB.out.trans ((HB3.out.trans (hb4.mono HB3.out.size)).mono HBB.out.size));clear hb4;go_wp2;go_ret;exact⟨by rw[HF.out];rfl,B4.out⟩
    ·rw[hs,Bool.true_and]at hf;have HS:=Yy hs;have HF:=Yy hf;clear hs hf;go_wp2_with (first | ((with_reducible refine YyL 36 (.tmp 20) ⟨b1,o1,none⟩ LX.out ?_ ?_ ?_);rfl;rfl) | ((with_reducible refine wpList_store_newx (o:=⟨none,.store 36 (.tmp 8) (.tmp 21),_,_,_,_⟩) (w:=wr) ?_ (.tmp 8) (.tmp 21) ?_ wr.heap.size ?_ ?_ x ?_ ZX.out ?_);rfl;rfl;rfl;rfl;rfl;intro w2 hb2 hx2 hs2;have X2:=Yy hx2;have HW2:=Yy hb2;have LY:=Yy (HY.out.same (hb2.block b2 hB2)).load;clear hx2 hb2 hs2) | ((with_reducible refine YyL 36 (.tmp 24) ⟨b2,o2,none⟩ LY.out ?_ ?_ ?_);rfl;rfl) | ((with_reducible refine wpList_store_newx (o:=⟨none,.store 36 (.tmp 9) (.tmp 25),_,_,_,_⟩) (w:=w2) ?_ (.tmp 9) (.tmp 25) ?_ w2.heap.size ?_ ?_ y ?_ ZY.out ?_);rfl;rfl;rfl;rfl;rfl;intro w3 hb3 hy3 hs3;have HB3:=Yy (HW2.out.trans (hb3.mono HW2.out.size));have L27:=Yy (X2.out.below hb3 X2.out.lt).load;have L28:=Yy hy3.load;have HC:=Yy (xsame_any x y w3 (HVX.out.below HB3.out Nl) (HVY.out.below HB3.out Nl));rw[HS.out]at HC;clear hb3 hy3 hs3) | ((with_reducible refine YyL 36 (.tmp 8) ⟨wr.heap.size,0,none⟩ L27.out ?_ ?_ ?_);rfl;rfl) | ((with_reducible refine YyL 36 (.tmp 9) ⟨w2.heap.size,0,none⟩ L28.out ?_ ?_ ?_);rfl;rfl));refine HC.out.mono ?_;rintro e w4 ⟨rfl,hb4⟩;have B4:=Yy (HBB.out.trans ((HB3.out.trans (hb4.mono HB3.out.size)).mono HBB.out.size));clear hb4;go_wp2;go_roundw
     case rel=>exact⟨k+1,by omega,by go_num,B4.out,HF.out⟩
     case measure=>simp[intOf];omega
   ·obtain rfl:k=len1:=by omega
    rw[List.drop_eq_nil_of_le (by rw[HL1.out];exact Nat.le_refl _),List.drop_eq_nil_of_le (by rw[HL2.out];exact Nat.le_refl _)]at hf;have HF:=Yy hf;have HB:=Yy hb;clear hf hb;go_wp2;go_ret;exact⟨by rw[HF.out];rfl,HB.out⟩
 ·have HF:=Yy (show bsame (xs.map (·.R)) (ys.map (·.R))=false by
   cases h:bsame (xs.map (·.R)) (ys.map (·.R)) with
   | false=>rfl
   | true=>
    have h2:=congrArg List.length (bsame_iff.1 h);rw[List.length_map,List.length_map,HL1.out,HL2.out]at h2;exact absurd h2 hl)
  have hne:¬ (len1:Int)=(len2:Int):=by omega
  have HB0:=Yy (Below.refl w.heap.size w);go_enter Tryz.func55,Tryz.ntmps55;go_wp2;go_ret;exact⟨by rw[HF.out];rfl,HB0.out⟩
theorem bsame_any (a b:Bk) (w:World) (h1:BkAt w a) (h2:BkAt w b):
  Calls Tryz.prog 24 #[.agg #[.slice a.A a.xs.length a.c],.agg #[.slice b.A b.xs.length b.c]] w fun e w'=>e=.returned (.bool (bsame a.rs b.rs))∧Below w.heap.size w w':=by
 obtain⟨xs,A,c⟩:=a;obtain⟨ys,B,d⟩:=b;unfold BkAt at h1 h2;dsimp only at h1 h2 ⊢;have S1:=(BoAt.new w (.slice A xs.length c)).old (.cells #[.slice B ys.length d] 24);have S2:=BoAt.new (w.alloc (.cells #[.slice A xs.length c] 24)) (.slice B ys.length d);rw[World.size_alloc]at S2;have HB:=Yy (((Below.refl w.heap.size w).alloc Nl (.cells #[.slice A xs.length c] 24)).alloc (by simp) (.cells #[.slice B ys.length d] 24));have s1:=S1.c0;have s2:=S2.c0;have HC:=Yy (beqf_any A B _ _ c d xs ys _ rfl rfl (h1.below HB.out Nl) (h2.below HB.out Nl));clear S1 S2 h1 h2;unfold Bk.rs;dsimp only;generalize xs.length=l1 at *;generalize ys.length=l2 at *;generalize bsame (xs.map (·.R)) (ys.map (·.R))=V at *;go_enter Tryz.func24,Tryz.ntmps24;go_wp2_with fail;refine HC.out.mono ?_;rintro e w1 ⟨rfl,hb⟩;have B1:=Yy (HB.out.trans (hb.mono HB.out.size));clear hb;go_wp2;go_ret;exact⟨rfl,B1.out⟩
end
end Go.Proofs.YtnlhkpmgbpfjmaaGreatDoor
