import Derived.Test.YtnlhkpmgbpfjmaaGreatDoorQe33
import Derived.LaidMore
import Derived.Stop.Joined
import Derived.Stop.LaidErr
/- What functions answer, part 34. -/
namespace Go.Proofs.YtnlhkpmgbpfjmaaGreatDoor
set_option linter.unusedVariables false
set_option linter.unusedSimpArgs false
set_option maxHeartbeats 16000000
set_option maxRecDepth 100000
section
open Go.RowKit Go.Shelf WM
theorem len_rsJ {l:Bk} {V:List Rc} (h:l.rs=V):l.xs.length=V.length:=by rw[← h];unfold Bk.rs;rw[List.length_map]
section
variable {P:Program} {ops:Array Oper} {o:Oper} {a:Act} {w w':World} {K:Act→World→Prop} {Q:Exit→Act→World→Prop} {E:Prop}
theorem in_storeB {X:World} (hgd:o.guard=none) (p q:Operand) (hop:o.op=.store 24 p q) (g:Nat) (hx:a.eval p=.pointer (some ⟨g,0,none⟩)) (u:Value) (hy:a.eval q=.agg #[u]) (hu:u.oneCell'=true) (v:Value) (hb:BoAt X g v)
  (hK:∀ X2,X.grownBy X2 (some g)→BoAt X2 g u→K (a.put o.dst undef) X2):if Region.wanted o (yielded ops a.tmps)=true then Oper.wp Tryz.prog o a X K Q else E:=by
 rw[if_pos (by simp[Region.wanted,hgd])];unfold Oper.wp;have h:=exec_store_row (P:=Tryz.prog) (o:=o) (ρ:=a.eval) (w:=X) 24 p q hop g #[u] hx hy 24 _ hb sizeBook rfl (bk_one hu);rw[h];exact hK _ (grownBy_setRow X g _) (hb.put u)
end
theorem Tta2 {p:Prop} (h:p:=by
  have L9:=Yy G9.out.load;have OX:=Yy (HO.out.below EB.out HO.out.lt);have HLE:=Yy HB.out.size;go_wp2_with (first | ((with_reducible refine YyL 24 (.tmp 16) ⟨g,0,none⟩ L9.out ?_ ?_ ?_);rfl;rfl) | ((with_reducible refine wpList_store_oldb (o:=⟨none,.store 24 (.tmp 14) (.tmp 80),_,_,_,_⟩) ?_ (.tmp 14) (.tmp 80) ?_ w111.heap.size _ OX.out ?_ (.slice d.A d.xs.length d.c) ?_ ?_ ?_);rfl;rfl;rfl;rfl;rfl;intro w8 hg8 hx8;have X8:=Yy hx8;have Y8:=Yy (HVY.out.kept_bo hg8 OX.out);have B8:=Yy ((HB.out.trans (EB.out.mono HB.out.size)).grown hg8 (Nat.le_trans HB.out.size EB.out.size) (fun k9 e9=>by have:=Option.some.inj e9;omega));clear hg8 hx8));go_roundw
  case rel=>exact⟨k+1,d,by omega,by go_num,X8.out,Y8.out,HDR.out,B8.out⟩
  case measure=>simp[intOf];omega
 ):p:=h
theorem Tta10 {p:Prop} (h:p:=by
  rw[hs]at CS2 HE;have t5:=HE.out;go_wp2_with (first | ((with_reducible refine YyL 24 (.tmp 10) ⟨w65.heap.size,0,none⟩ R10.out ?_ ?_ ?_);rfl;rfl) | ((with_reducible refine YyL 24 (.tmp 3) ⟨(w.heap.size+1),0,none⟩ R3.out ?_ ?_ ?_);rfl;rfl));refine CS2.out.mono ?_;rintro e w6 ⟨rfl,hb6⟩;have B6:=Yy (HBW.out.trans ((B5.out.trans (hb6.mono B5.out.size)).mono HBW.out.size));clear hb6;go_wp2;go_ret;exact⟨rfl,B6.out⟩
 ):p:=h
theorem walk_aboveJoins (a b:Bk) (w:World) (hlaid:Laid w) (wa:BkAt w a) (ua:bkB a.xs≤1048576) (wb:BkAt w b) (ub:bkB b.xs≤1048576):Calls Tryz.prog 4 #[.agg #[.slice a.A a.xs.length a.c],.agg #[.slice b.A b.xs.length b.c]] w fun e w'=>e=.returned (.bool true)∧Below w.heap.size w w':=by
 have HLA:=Yy (fun (X:World) (hX:Below w.heap.size w X)=>hlaid.below hX Nl);have Fa:=Yy wa;have Fb:=Yy wb;have HUA:=Yy ua;have HUB:=Yy ub;have hzm:=zeroMn;rw[show mnA0.v=.agg mnA0.cs.toArray from rfl]at hzm;have hzne:¬ mnA0.cs.toArray=#[]:=by decide
 obtain⟨pb,p⟩:∃ v,fewB a.rs=v:=⟨_,rfl⟩;obtain⟨qb,q⟩:∃ v,fewB b.rs=v:=⟨_,rfl⟩;obtain⟨v1,h1⟩:∃ v,(mofB b.rs).isSome=v:=⟨_,rfl⟩;obtain⟨MB,hmb⟩:∃ v,(mofB b.rs).getD mn0=v:=⟨_,rfl⟩;obtain⟨e,he⟩:∃ v,(bjE a.rs b.rs).1=v:=⟨_,rfl⟩;obtain⟨J,hJ⟩:∃ v,(bjE a.rs b.rs).2=v:=⟨_,rfl⟩;have PA:=Yy p;have PB:=Yy q;have HM1:=Yy h1;have HMB:=Yy hmb;have JJ:Hid (bjE a.rs b.rs=(e,J)):=Yy (Prod.ext he hJ);have HE3:=Yy (bjE_err a.rs b.rs);rw[he]at HE3;clear hlaid wa wb ua ub p q h1 hmb he hJ;have B1:=Yy (Below.refl w.heap.size w);have T2n:=BoAt.new w (.slice a.A a.xs.length a.c);have T2:=Yy T2n;clear T2n;have B3:=Yy (B1.out.alloc B1.out.size (.cells #[(.slice a.A a.xs.length a.c)] 24));have T4:=Yy (T2.out.old (.cells #[(.slice b.A b.xs.length b.c)] 24));have T5n:=BoAt.new (w.alloc (.cells #[(.slice a.A a.xs.length a.c)] 24)) (.slice b.A b.xs.length b.c);simp only[World.size_alloc]at T5n;have T5:=Yy T5n;clear T5n;have B6:=Yy (B3.out.alloc B3.out.size (.cells #[(.slice b.A b.xs.length b.c)] 24));have F7:=Yy (Fa.out.below B6.out Nl);have F8:=Yy (Fb.out.below B6.out Nl);go_enter Tryz.func4,Tryz.ntmps4;have C9:=Yy (abAwake ((w.alloc (.cells #[(.slice a.A a.xs.length a.c)] 24)).alloc (.cells #[(.slice b.A b.xs.length b.c)] 24)) (HLA.out _ B6.out));go_wp2_with fail;refine C9.out.mono ?_;rintro e w10 ⟨rfl,hb11⟩;have T12:=Yy (T4.out.below hb11 T4.out.lt);have T13:=Yy (T5.out.below hb11 T5.out.lt);have F14:=Yy (F7.out.below hb11 Nl);have F15:=Yy (F8.out.below hb11 Nl)
 have B16:=Yy (B6.out.trans (hb11.mono B6.out.size));clear hb11;have M17:=Yy (T12.out.load);have C18:=Yy (fewB_any a w10 F14.out);rw[PA.out]at C18;go_wp2_with (first | ((with_reducible refine YyL 24 (.tmp 2) ⟨w.heap.size,0,none⟩ M17.out ?_ ?_ ?_);rfl;rfl));refine C18.out.mono ?_;rintro e w19 ⟨rfl,hb20⟩;have T21:=Yy (T12.out.below hb20 T12.out.lt);have T22:=Yy (T13.out.below hb20 T13.out.lt);have F23:=Yy (F14.out.below hb20 Nl);have F24:=Yy (F15.out.below hb20 Nl);have B25:=Yy (B16.out.trans (hb20.mono B16.out.size));clear hb20;have M26:=Yy (T22.out.load);have C27:=Yy (fewB_any b w19 F24.out);rw[PB.out]at C27;go_wp2_with (first | ((with_reducible refine YyL 24 (.tmp 3) ⟨(w.heap.size+1),0,none⟩ M26.out ?_ ?_ ?_);rfl;rfl));refine C27.out.mono ?_;rintro e w28 ⟨rfl,hb29⟩;have T30:=Yy (T21.out.below hb29 T21.out.lt);have T31:=Yy (T22.out.below hb29 T22.out.lt);have F32:=Yy (F23.out.below hb29 Nl);have F33:=Yy (F24.out.below hb29 Nl);have B34:=Yy (B25.out.trans (hb29.mono B25.out.size));clear hb29;have M38:=Yy (T31.out.load);have C39:=Yy ((show Calls Tryz.prog 21 #[.agg #[.slice b.A b.xs.length b.c]] w28 (fun e w'=>∃ m:MnA,e=.returned (.tuple #[.agg m.cs.toArray,.bool v1])∧m.m=MB∧m.Ok w'∧Below (w28).heap.size w28 w') from by have h:=pof12_any b w28 (HLA.out _ B34.out) F33.out;unfold MofPost at h;rw[HM1.out,HMB.out]at h;exact h));go_wp2_with (first | ((with_reducible refine YyL 24 (.tmp 3) ⟨(w.heap.size+1),0,none⟩ M38.out ?_ ?_ ?_);rfl;rfl));refine C39.out.mono ?_
 rintro e w40 ⟨d35,rfl,hd36,hk37,hb41⟩;have T42:=Yy (T30.out.below hb41 T30.out.lt);have T43:=Yy (T31.out.below hb41 T31.out.lt);have F44:=Yy (F32.out.below hb41 Nl);have F45:=Yy (F33.out.below hb41 Nl);have B46:=Yy (B34.out.trans (hb41.mono B34.out.size));clear hb41;have E47:=Yy (hd36);have F48:=Yy (hk37);clear hd36 hk37;have SZ48:=Yy (mn_size F48.out);have SQ48:=Yy (show mnA0.cs.toArray.size=d35.cs.toArray.size by rw[mnA0_size,List.size_toArray];exact (MnA.len F48.out).symm);have SO48:=Yy (mn_ones d35);have L50:=Yy (MnA.len F48.out);have hb51:=(Below.refl w40.heap.size w40).alloc Nl (.cells d35.cs.toArray 29);have T52:=Yy (RowAt.new w40 d35.cs.toArray 29);have T53:=Yy (T42.out.below hb51 T42.out.lt);have T54:=Yy (T43.out.below hb51 T43.out.lt);have F55:=Yy (F44.out.below hb51 Nl);have F56:=Yy (F45.out.below hb51 Nl);have F57:=Yy (F48.out.below hb51 Nl);have B58:=Yy (B46.out.trans (hb51.mono B46.out.size));clear hb51;have M62:=Yy (T53.out.load);have M63:=Yy (T54.out.load);have C64:=Yy (bjoin_any a b (w40.alloc (.cells d35.cs.toArray 29)) (HLA.out _ B58.out) F55.out F56.out);unfold BJoinPost at C64;rw[JJ.out]at C64;dsimp only at C64
 go_wp2_with (first | ((with_reducible refine YyL 24 (.tmp 2) ⟨w.heap.size,0,none⟩ M62.out ?_ ?_ ?_);rfl;rfl) | ((with_reducible refine YyL 24 (.tmp 3) ⟨(w.heap.size+1),0,none⟩ M63.out ?_ ?_ ?_);rfl;rfl) | ((with_reducible refine wpList_store_new (o:=⟨none,.store 29 (.tmp 8) (.tmp 26),_,_,_,_⟩) ?_ 29 (.tmp 8) (.tmp 26) ?_ ?_ mnA0.cs.toArray d35.cs.toArray ?_ SZ48.out SQ48.out SO48.out ?_);rfl;rfl;(first | rfl | exact congrArg (fun q=>Value.pointer (some ⟨q,0,none⟩)) (World.size_alloc _ _).symm);rfl));refine C64.out.mono ?_;rintro e w65 ⟨d59,rfl,hd60,hk61,hb66⟩;have T67:=Yy (T53.out.below hb66 T53.out.lt);have T68:=Yy (T54.out.below hb66 T54.out.lt);have T69:=Yy (T52.out.below hb66 T52.out.lt);have F70:=Yy (F55.out.below hb66 Nl);have F71:=Yy (F56.out.below hb66 Nl);have F72:=Yy (F57.out.below hb66 Nl);have B73:=Yy (B58.out.trans (hb66.mono B58.out.size));clear hb66;have E74:=Yy (hd60);have F75:=Yy (hk61);clear hd60 hk61;have hb76:=(Below.refl w65.heap.size w65).alloc Nl (.cells #[(.slice d59.A d59.xs.length d59.c)] 24);have T77:=Yy (BoAt.new w65 (.slice d59.A d59.xs.length d59.c));have T78:=Yy (T67.out.below hb76 T67.out.lt);have T79:=Yy (T68.out.below hb76 T68.out.lt);have T80:=Yy (T69.out.below hb76 T69.out.lt);have F81:=Yy (F70.out.below hb76 Nl);have F82:=Yy (F71.out.below hb76 Nl);have F83:=Yy (F72.out.below hb76 Nl);have F84:=Yy (F75.out.below hb76 Nl);have B85:=Yy (B73.out.trans (hb76.mono B73.out.size));clear hb76;have M87:=Yy (T78.out.load)
 have M88:=Yy (T79.out.load);have C89:=Yy (alike_any a b (w65.alloc (.cells #[(.slice d59.A d59.xs.length d59.c)] 24)) (HLA.out _ B85.out) F81.out F82.out HUA.out HUB.out);unfold AlikePost at C89;go_wp2_with (first | ((with_reducible refine YyL 24 (.tmp 2) ⟨w.heap.size,0,none⟩ M87.out ?_ ?_ ?_);rfl;rfl) | ((with_reducible refine YyL 24 (.tmp 3) ⟨(w.heap.size+1),0,none⟩ M88.out ?_ ?_ ?_);rfl;rfl) | ((with_reducible refine wpList_store_new (o:=⟨none,.store 29 (.tmp 8) (.tmp 26),_,_,_,_⟩) ?_ 29 (.tmp 8) (.tmp 26) ?_ ?_ mnA0.cs.toArray d35.cs.toArray ?_ SZ48.out SQ48.out SO48.out ?_);rfl;rfl;(first | rfl | exact congrArg (fun q=>Value.pointer (some ⟨q,0,none⟩)) (World.size_alloc _ _).symm);rfl));refine C89.out.mono ?_;rintro e w90 ⟨va,rfl,hb91,hno86⟩;have T92:=Yy (T78.out.below hb91 T78.out.lt);have T93:=Yy (T79.out.below hb91 T79.out.lt);have T94:=Yy (T80.out.below hb91 T80.out.lt);have T95:=Yy (T77.out.below hb91 T77.out.lt);have F96:=Yy (F81.out.below hb91 Nl);have F97:=Yy (F82.out.below hb91 Nl);have F98:=Yy (F83.out.below hb91 Nl);have F99:=Yy (F84.out.below hb91 Nl);have B100:=Yy (B85.out.trans (hb91.mono B85.out.size));clear hb91;have N101:=Yy (hno86);clear hno86;cases pb
 ·go_wp2;go_ret;exact⟨rfl,B100.out⟩
 cases qb
 ·go_wp2;go_ret;exact⟨rfl,B100.out⟩
 cases v1
 ·go_wp2;go_ret;exact⟨rfl,B100.out⟩
 rcases HE3.out with he | he | he
 rotate_left
 ·subst he;go_wp2;go_ret;exact⟨rfl,B100.out⟩
 ·subst he;go_wp2;go_ret;exact⟨rfl,B100.out⟩
 subst he;cases va;rotate_left
 ·go_wp2;go_ret;exact⟨rfl,B100.out⟩
 obtain⟨hm1,hm2,hjl,hje⟩:=bjE_ok (a:=a.rs) (b:=b.rs) (congrArg Prod.fst JJ.out);have hJ:J=bjoin a.rs b.rs:=(congrArg Prod.snd JJ.out).symm.trans hje;have hMB:MB=mof SH.sum (SH.sum (bbs b.rs)) b.rs:=by
  have h:=HMB.out;rw[show mofB b.rs=some (mof SH.sum (SH.sum (bbs b.rs)) b.rs) from if_pos hm2]at h;exact h.symm
 have hAJ:=above_joins (base:=SH.sum (bbs b.rs)) hm1 hm2 hjl (N101.out rfl);rw[← hMB,← hJ]at hAJ;obtain⟨V,hV⟩:∃ V,aparts a.rs MB=V:=⟨_,rfl⟩;have hVf:a.rs.filterMap (apart MB)=V:=by rw[← hV,hMB];exact (aparts_eq hm1 hm2).symm
 rw[hVf]at hAJ;obtain⟨hA1,hA2⟩:=hAJ;have hVl:V.length≤14:=by rw[← hV];refine Nat.le_trans joins_len ?_;unfold Bk.rs;rw[List.length_map];exact (fewB_fs PA.out).1
 have HP1:=Yy hV;obtain⟨n,hn⟩:∃ n,V.length=n:=⟨_,rfl⟩;have hnb:n≤14:=by omega
 have HN:=Yy hn;obtain⟨C,hC⟩:∃ C:Nat→List Rc,∀ k,C k=(addAll (V.take k) (0,b.rs)).2:=⟨_,fun _=>rfl⟩;have HC0:Hid (b.rs=C 0):=Yy (by rw[hC,List.take_zero];rfl);have HCN:Hid (C n=J):=Yy (by rw[hC,← hn,List.take_length,hA1]);have HCS:Hid (∀ k,k<n→addE (C k) (V.getD k rc0)=(0,C (k+1))):=Yy (fun k hk=>by rw[hC,hC];exact addAll_step hA1 (by omega));have HAQ:=Yy hA2;clear hm1 hm2 hjl hje hJ hMB hV hVf hA1 hA2 hVl hn hC;have M108:=Yy (T94.out.mn L50.out);have M109:=Yy (T92.out.load);have C110:=Yy ((show Calls Tryz.prog 16 #[.agg #[.slice a.A a.xs.length a.c],.agg d35.cs.toArray] w90 (fun e w'=>∃ l:Bk,e=.returned (.slice l.A l.xs.length l.c)∧l.rs=V∧BkAt w' l∧(∀ x∈l.xs,FTag w' x.A)∧Below (w90).heap.size w90 w') from by have h:=parts14_any a d35 w90 (HLA.out _ B100.out) F96.out F98.out;unfold PartsPost at h;rw[E47.out,HP1.out]at h;exact h));go_wp2_with (first | ((with_reducible refine YyL 29 (.tmp 8) ⟨w40.heap.size,0,none⟩ M108.out ?_ ?_ ?_);rfl;rfl) | ((with_reducible refine YyL 24 (.tmp 2) ⟨w.heap.size,0,none⟩ M109.out ?_ ?_ ?_);rfl;rfl));refine C110.out.mono ?_;rintro e w111 ⟨l102,he103,hr104,hk105,ht106,hb112⟩;have hl107:l102.xs.length=n:=(len_rsJ hr104).trans HN.out;rw[hl107]at he103;subst he103;have T114:=Yy (T93.out.below hb112 T93.out.lt);have T116:=Yy (T95.out.below hb112 T95.out.lt);have F118:=Yy (F97.out.below hb112 Nl);have F120:=Yy (F99.out.below hb112 Nl);have B121:=Yy (B100.out.trans (hb112.mono B100.out.size));clear hb112;have E122:=Yy (hr104);have L123:=Yy (hl107)
 have F124:=Yy (hk105);clear hr104 hk105 ht106 hl107;have L3:=Yy (T114.out.load);have HRV:=Yy (fun k (hk:k<n)=>RsAt.rv (show RsAt w111 l102.A l102.c l102.xs from F124.out) (by rw[L123.out];exact hk));have HVK:Hid (∀ k,k<n→(l102.xs.getD k rcA0).R=V.getD k rc0):=Yy (fun k hk=>by
  rw[← E122.out];unfold Bk.rs;have h:k<l102.xs.length:=by rw[L123.out];exact hk
  rw[List.getD_eq_getElem?_getD,List.getElem?_eq_getElem h,List.getD_eq_getElem?_getD,List.getElem?_map,List.getElem?_eq_getElem h]
  rfl)
 have HRC:Hid (0<n→∃ b0 off,l102.A=some ⟨b0,off,none⟩∧b0<w111.heap.size∧∀ k,k<n→RecAt w111 b0 (off+k*19) (l102.xs.getD k rcA0)):=Yy (fun h0=>by
  obtain⟨_,_,_,h4,_⟩:=(show RsAt w111 l102.A l102.c l102.xs from F124.out);rw[L123.out]at h4;exact h4 h0)
 have HLW:=Yy (fun (X9:World) (hX:Below w111.heap.size w111 X9)=>HLA.out X9 (B121.out.trans (hX.mono B121.out.size)));have hzb:∀ w:World,(zeroValue 24).run Tryz.prog w=.ok (.agg #[.slice none 0 0]) w:=zeroBook;have O14:=Yy (BoAt.new w111 (.slice b.A b.xs.length b.c));have B14:=Yy ((Below.refl w111.heap.size w111).alloc Nl (.cells #[(.slice b.A b.xs.length b.c)] 24));have F14:=Yy (F118.out.below B14.out Nl);go_wp2_with (first | ((with_reducible refine YyL 24 (.tmp 3) ⟨(w.heap.size+1),0,none⟩ L3.out ?_ ?_ ?_);rfl;rfl));go_loopw [15] (fun i wr=>∃ (k:Nat) (c:Bk),k≤n∧i=.int .i64 k∧BoAt wr w111.heap.size (.slice c.A c.xs.length c.c)∧BkAt wr c∧c.rs=C k∧Below w111.heap.size w111 wr) (fun i _=>n - (intOf i).toNat)
 case atStart=>exact⟨0,b,Nat.zero_le _,rfl,O14.out,F14.out,HC0.out,B14.out⟩
 case round=>
  obtain⟨k,c,hk,rfl,ho,hbk,hcs,hb⟩:=hrel;have HB:=Yy hb;have HO:=Yy ho;have HBK:=Yy hbk;have HCK:=Yy hcs;clear hb ho hbk hcs;by_cases hlt:k<n
  ·have t1:(k:Int)<(n:Int):=by omega
   obtain⟨b0,off,hA,hb0,hcc⟩:=HRC.out (by omega);have HX1:=Yy (hcc k hlt);have IXX:=Yy (fun w9=>ix_rec b0 off n l102.c k hlt k rfl w9);rw[← hA]at IXX;have HXV:=Yy (HRV.out k hlt);have HST:=HCS.out k hlt;rw[← HVK.out k hlt,← HCK.out]at HST;have HSE:=Yy HST;clear hcc hA HST;generalize l102.xs.getD k rcA0=x at *;generalize off+k*19=ox at *;have HX2:=Yy (HX1.out.same (HB.out.block b0 hb0));have hb02:=Nat.lt_of_lt_of_le hb0 HB.out.size;have HJ:=Yy (fun (X9:World) (hX:Below wr.heap.size wr X9)=>(show Calls Tryz.prog 13 #[.agg #[.slice c.A c.xs.length c.c],.agg x.cells] X9 (fun e w'=>∃ d:Bk,e=.returned (.tuple #[.agg #[.slice d.A d.xs.length d.c],.int .i64 0])∧d.rs=C (k+1)∧BkAt w' d∧Below X9.heap.size X9 w') from by have h:=padd14_any c x X9 (HLW.out X9 (HB.out.trans (hX.mono HB.out.size))) (HBK.out.below hX Nl) (HXV.out.below (HB.out.trans (hX.mono HB.out.size)) Nl);unfold BJoinPost at h;rw[HSE.out]at h;exact h));go_wp2_with fail;refine wp_region_held_drew (S:=fun X9=>Below wr.heap.size wr X9) (by kernel_rfl) ((Below.refl wr.heap.size wr).drew) (fun hS=>?_);refine YHd 0 (some 70) (.agg #[.slice c.A c.xs.length c.c]) rfl hS (fun w9 hSw=>by exact exec_load_by 24 _ rfl ⟨w111.heap.size,0,none⟩ rfl (HO.out.below hSw HO.out.lt).load) ?_;refine YHa 1 (some 71) rfl hS ?_;refine YHa 2 (some 72) rfl hS ?_;refine YHb 3 (some 73) rfl hS (fun w9 hSw=>IXX.out w9) ?_
   refine YHd 4 (some 74) (.agg x.cells) rfl hS (fun w9 hSw=>by exact exec_load_by 36 _ rfl ⟨b0,ox,none⟩ rfl (HX2.out.same (hSw.block b0 hb02)).load) ?_;refine wpAnyH_ready (rs:=[5,9]) (by kernel_rfl) (by simp) (AllReadyH.cons (o:=⟨some 75,_,_,_,_,_⟩) rfl (fun K hK=>?_) (AllReadyH.cons (o:=⟨some 16,_,_,_,_,_⟩) rfl (fun K hK=>?_) AllReadyH.nil))
   ·go_simp;refine (HJ.out _ hS).mono ?_;rintro e x0 ⟨d,rfl,hd,hdk,hb0x⟩;have HDR:=Yy hd;have HVY0:=Yy hdk;have HBX:=Yy (hS.trans (hb0x.mono hS.size));clear hS hb0x hd hdk;refine hK.out _ _ HBX.out (fun hS=>?_);clear hK K
    try simp only[Act.put,Z2,Z3,Z4]
    refine YHa 6 (some 69) rfl hS ?_;refine YHa 7 (some 76) rfl hS ?_;refine YHa 8 (some 77) rfl hS ?_;refine wpAnyH_ready (rs:=[9]) (by kernel_rfl) (by simp) (AllReadyH.cons (o:=⟨some 16,_,_,_,_,_⟩) rfl (fun K hK=>?_) AllReadyH.nil);go_simp;have HBX2:=Yy (HBX.out.alloc HBX.out.size (.cells #[.slice none 0 0] 24));have G0:=Yy (BoAt.new x0 (.slice none 0 0));have HVY1:=Yy (HVY0.out.below ((Below.refl x0.heap.size x0).alloc Nl (.cells #[.slice none 0 0] 24)) Nl);have HGE:=Yy HBX.out.size;refine hK.out _ _ HBX2.out (fun hS=>?_);clear hK K
    try simp only[Act.put,Z2,Z3,Z4]
    refine wpAnyH_ready (rs:=[10]) (by kernel_rfl) (by simp) (AllReadyH.cons (o:=⟨none,_,_,_,_,_⟩) rfl (fun K hK=>?_) AllReadyH.nil);refine in_storeB rfl (.tmp 16) (.tmp 76) rfl x0.heap.size rfl (.slice d.A d.xs.length d.c) rfl rfl (.slice none 0 0) G0.out ?_;intro X hg2 G9x;have EB:=Yy (HBX2.out.grown hg2 HBX2.out.size (fun k9 e9=>by have:=Option.some.inj e9;have:=HGE.out;omega));have G9:=Yy G9x;have HVY:=Yy (HVY1.out.kept_bo hg2 G0.out);clear hg2 G9x HBX HBX2 HVY0 HVY1 G0;refine hK.out _ _ EB.out (fun hS=>?_);clear hK K
    try simp only[Act.put,Z2,Z3,Z4]
    refine YHa 11 (some 17) rfl hS ?_;refine wpAnyH_done (by kernel_rfl) ?_ _;clear hS;generalize x0.heap.size=g at *;exact Tta2
   ·go_simp;have HBX:=Yy (hS.alloc hS.size (.cells #[.slice none 0 0] 24));have G00:=Yy (BoAt.new wr.drew (.slice none 0 0));clear hS;refine hK.out _ _ HBX.out (fun hS=>?_);clear hK K
    try simp only[Act.put,Z2,Z3,Z4]
    refine wpAnyH_ready (rs:=[5]) (by kernel_rfl) (by simp) (AllReadyH.cons (o:=⟨some 75,_,_,_,_,_⟩) rfl (fun K hK=>?_) AllReadyH.nil);go_simp;refine (HJ.out _ HBX.out).mono ?_;rintro e x0 ⟨d,rfl,hd,hdk,hb0x⟩;have HDR:=Yy hd;have HVY0:=Yy hdk;have HVY1:=Yy hdk;have HBX2:=Yy (HBX.out.trans (hb0x.mono HBX.out.size));have G0:=Yy (show BoAt x0 wr.heap.size (.slice none 0 0) from G00.out.below hb0x G00.out.lt);have HGE:=Yy (Nat.le_refl wr.heap.size);clear hS hb0x hd hdk G00;refine hK.out _ _ HBX2.out (fun hS=>?_);clear hK K
    try simp only[Act.put,Z2,Z3,Z4]
    refine YHa 6 (some 69) rfl hS ?_;refine YHa 7 (some 76) rfl hS ?_;refine YHa 8 (some 77) rfl hS ?_;refine wpAnyH_ready (rs:=[10]) (by kernel_rfl) (by simp) (AllReadyH.cons (o:=⟨none,_,_,_,_,_⟩) rfl (fun K hK=>?_) AllReadyH.nil);refine in_storeB rfl (.tmp 16) (.tmp 76) rfl wr.heap.size rfl (.slice d.A d.xs.length d.c) rfl rfl (.slice none 0 0) G0.out ?_;intro X hg2 G9x;have EB:=Yy (HBX2.out.grown hg2 HBX2.out.size (fun k9 e9=>by have:=Option.some.inj e9;have:=HGE.out;omega));have G9:=Yy G9x;have HVY:=Yy (HVY1.out.kept_bo hg2 G0.out);clear hg2 G9x HBX HBX2 HVY0 HVY1 G0;refine hK.out _ _ EB.out (fun hS=>?_);clear hK K
    try simp only[Act.put,Z2,Z3,Z4]
    refine YHa 11 (some 17) rfl hS ?_;refine wpAnyH_done (by kernel_rfl) ?_ _;clear hS;obtain⟨g,hg7⟩:∃ g,g=wr.heap.size:=⟨_,rfl⟩;rw[← hg7]at G9 ⊢;clear hg7;exact Tta2
  ·have t1:¬ (k:Int)<(n:Int):=by omega
   obtain rfl:k=n:=by omega
   have HSJ:=Yy (fun (X9:World) (hX:Below w111.heap.size w111 X9)=>F120.out.below hX Nl);have HSB:=Yy (fun (X9:World) (hX:Below w111.heap.size w111 X9)=>F118.out.below hX Nl);have T10R:=Yy (T116.out.below HB.out T116.out.lt);have M14:=Yy HO.out.load;have M10:=Yy T10R.out.load;have CS1:=Yy (bsame_any c d59 wr HBK.out (HSJ.out wr HB.out));rw[HCK.out,HCN.out,E74.out,bsame_iff.2 rfl]at CS1;go_wp2_with (first | ((with_reducible refine YyL 24 (.tmp 14) ⟨w111.heap.size,0,none⟩ M14.out ?_ ?_ ?_);rfl;rfl) | ((with_reducible refine YyL 24 (.tmp 10) ⟨w65.heap.size,0,none⟩ M10.out ?_ ?_ ?_);rfl;rfl));refine CS1.out.mono ?_;rintro e w5 ⟨rfl,hb5⟩;have B5:=Yy (HB.out.trans (hb5.mono HB.out.size));have R10:=Yy (T116.out.below B5.out T116.out.lt).load;have R3:=Yy (T114.out.below B5.out T114.out.lt).load;have CS2:=Yy (bsame_any d59 b w5 (HSJ.out w5 B5.out) (HSB.out w5 B5.out));rw[E74.out]at CS2;have HE:Hid (((k:Int) == 0)=bsame J b.rs):=Yy (by
    rw[Bool.eq_iff_iff,beq_iff_eq,bsame_iff,← HAQ.out,← List.length_eq_zero_iff,HN.out];omega)
   have HBW:=Yy B121.out;clear hb5;cases hs:bsame J b.rs
   ·exact Tta10
   ·exact Tta10
end
section
open Go.ChangeShapes Go.WideShapes Go.ChangeAt Go.RowKit
def laid2:List (String×DataW Unit):=[("rolodex/sha.squareRoots",Rows.laid_rolodex_sha_squareRoots),("rolodex/sha.cubeRoots",Rows.laid_rolodex_sha_cubeRoots)]
theorem gSquare:Tryz.prog.globalNamed "rolodex/sha.squareRoots" = some 0:=by kernel_rfl
theorem gCube:Tryz.prog.globalNamed "rolodex/sha.cubeRoots" = some 1:=by kernel_rfl
theorem tSquare:(Tryz.prog.globals[0]?).map (·.type)=some 130:=by kernel_rfl
theorem tCube:(Tryz.prog.globals[1]?).map (·.type)=some 162:=by kernel_rfl
theorem dSquare:(Rows.laid_rolodex_sha_squareRoots:DataW Unit)=Lib.tabData .u32 (SH.H0.list.map fun n:Nat=>(n:Int)):=by kernel_rfl
theorem dCube:(Rows.laid_rolodex_sha_cubeRoots:DataW Unit)=Lib.tabData .u32 (SH.K.map fun n:Nat=>(n:Int)):=by kernel_rfl
theorem cW:Tryz.prog.cellsOf 120=1:=by kernel_rfl
theorem c8:Tryz.prog.cellsOf 130=8:=by kernel_rfl
theorem c64:Tryz.prog.cellsOf 162=64:=by kernel_rfl
theorem map_getD (l:List Nat) (i:Nat):(l.map fun n:Nat=>(n:Int)).getD i 0=((l.getD i 0:Nat):Int):=by
 rcases Nat.lt_or_ge i l.length with h | h
 ·simp[List.getD,List.getElem?_eq_getElem h]
 ·simp[List.getD,List.getElem?_eq_none h]
theorem block_lt {W:World} {g i:Nat} {v:Value} (h:W.cell? ⟨g,i,none⟩=some v):g<W.heap.size:=by
 rcases Nat.lt_or_ge g W.heap.size with h2 | h2
 ·exact h2
 ·rw[World.cell?]at h;rw[Array.getElem?_eq_none h2]at h;cases h
theorem of_laid {W:World} (h:laidMetH Tryz.prog laid2 W):Laid W:=by
 rw[MakeChecks.laidMetH_plain _ _ _ (by kernel_rfl)]at h;unfold laid2 at h;rw[dSquare,dCube]at h;have t1:=Lib.tabIs_of_head gSquare tSquare Tryz.underlying130 Tryz.underlying120 cW c8 h;have t2:=Lib.tabIs_of_head gCube tCube Tryz.underlying162 Tryz.underlying120 cW c64 h.tail;have a1:∀ i,i<8→W.cell? ⟨0,i,none⟩=some (.int .u32 (SH.H0.list.getD i 0:Nat)):=fun i hi=>by rw[t1.cell gSquare i (by rw[List.length_map];exact hi),map_getD]
 have a2:∀ i,i<64→W.cell? ⟨1,i,none⟩=some (.int .u32 (SH.K.getD i 0:Nat)):=fun i hi=>by rw[t2.cell gCube i (by rw[List.length_map,SH.K_len];exact hi),map_getD]
 exact⟨a1,a2,block_lt (a1 0 (by omega)),block_lt (a2 0 (by omega))⟩
theorem door_met (os:Os) (args:Array Value):laidMetH Tryz.prog laid2 ((World.doorLaid Tryz.prog 400 os).forCall (fun _ _=>0) ⟨#[],args,[]⟩).memory:=
 laidMetH_of_parts3 (fuel:=8) (laidMet_of_run' 8 (by kernel_rfl) (by kernel_rfl)) (by kernel_rfl) (by kernel_rfl)
end
end Go.Proofs.YtnlhkpmgbpfjmaaGreatDoor
