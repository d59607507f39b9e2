import Derived.Test.YtnlhkpmgbpfjmaaGreatDoorQd16
/- What functions answer, part 17. -/
namespace Go.Proofs.YtnlhkpmgbpfjmaaGreatDoor
set_option linter.unusedVariables false
set_option linter.unusedSimpArgs false
set_option maxHeartbeats 16000000
set_option maxRecDepth 100000
section
section
open Go.RowKit WM
def GrowPost1 (w:World) (e:Ending) (w':World):Prop:=∃ v,e=.returned v∧w'.ownsRow w.heap.size 5 1 v 0 []∧Below w.heap.size w w'
theorem grow1_any (n:Nat) (w:World) (h0:0<n) (hn:n≤1000):Calls Tryz.prog 135 #[.slice none 0 0,.int .i64 n] w (GrowPost1 w):=by
 obtain⟨i0,hi,hz0,hz1,hz2⟩:=info_parts infoByte;have happ:=Lib.run_append_nil_zeros (P:=Tryz.prog) w 105 3 105 5 i0 (.int .u8 0) .i64 .i64 Tryz.underlying105 Tryz.underlying3 hi hz0 n (by omega) (by omega) (by omega) (by rw[hz2];omega);have hg:=grownCap_ge w n 0 5;have hm:=grownCap_le_maxLen w n 0 5 (by simp only[maxLen];omega);generalize grownCap w n 0 5=C at happ hg hm;have hs:(Builtin.zeroCells (Value.int .u8 0).cells n++Builtin.zeroCells (Value.int .u8 0).cells (C - n)).size=C*1:=by
  rw[Array.size_append,size_zeroCells,size_zeroCells,show (Value.int .u8 0).cells.size=1 from rfl];omega
 generalize Builtin.zeroCells (Value.int .u8 0).cells n++Builtin.zeroCells (Value.int .u8 0).cells (C - n)=Z at happ hs;have HO:=Yy (World.ownsRow_made (base:=w.heap.size) (size:=1) (e:=5) w.drew Z C Nl hm hs);have HB:=Yy (((Below.refl w.heap.size w).drew).alloc Nl (.cells Z 5));have s1:=sl_h none 0 0 0 Nl 0 rfl;have s2:=sl_h (some ⟨w.heap.size,0,none⟩) n C 0 (Nat.zero_le _) 0 rfl;have t1:¬ (n:Int)<0:=by omega
 have t2:(0:Int)<(n:Int):=by omega
 simp only[maxLen]at hm;clear hs h0;go_enter Tryz.func135,Tryz.ntmps135;exact Tta82
def BsAt (w:World) (A:Option Addr) (n c:Nat) (zs:List Int):Prop:=Byt w w.heap.size A zs∧zs.length=n∧(A=none→c=0)
theorem BsAt.below {w w':World} {B:Nat} {A:Option Addr} {n c:Nat} {zs:List Int} (h:BsAt w A n c zs) (hb:Below B w w') (hB:w.heap.size≤B):BsAt w' A n c zs:=⟨(h.1.below (hb.mono hB)).wide hb.size,h.2⟩
theorem BsAt.own {w:World} {base n c:Nat} {A:Option Addr} {zs:List Int} (h:w.ownsRow base 5 1 (.slice A n c) n (zs.map (Value.int .u8))):BsAt w A n c zs:=⟨Byt.own h,by simpa using h.1,own_nil h⟩
theorem concat3_any (g:Nat) (A1 A2 A3:Option Addr) (l1 l2 l3 c1 c2 c3:Nat) (f1 f2 f3:List Int) (w:World) (hg:g<w.heap.size) (hg0:w.cell? ⟨g,0,none⟩=some (.slice A1 l1 c1)) (hg1:w.cell? ⟨g,1,none⟩=some (.slice A2 l2 c2)) (hg2:w.cell? ⟨g,2,none⟩=some (.slice A3 l3 c3))
  (h1:BsAt w A1 l1 c1 f1) (h2:BsAt w A2 l2 c2 f2) (h3:BsAt w A3 l3 c3 f3) (hs:l1+l2+l3≤1000) (hp:0<l1):
  Calls Tryz.prog 122 #[.slice (some ⟨g,0,none⟩) 3 3] w (Gives w (f1++f2++f3)):=by
 have HG:=Yy (grow1_any (l1+l2+l3));rw[Int.natCast_add,Int.natCast_add]at HG;unfold GrowPost1 at HG;have t1:¬ (l1:Int)<0:=by omega
 have t2:¬ (l1:Int)+(l2:Int)<0:=by omega
 have t3:¬ (l1:Int)+(l2:Int)+(l3:Int)<0:=by omega
 obtain⟨i0,hi,hz0,hz1,hz2⟩:=info_parts infoByte;have H1:=Yy h1;have H2:=Yy h2;have H3:=Yy h3;clear h1 h2 h3;go_enter Tryz.func122,Tryz.ntmps122;go_wp2;refine wp_loop_rounds 4 ?_;rw[rounds_succ];go_wp2;rw[rounds_succ];go_wp2;rw[rounds_succ];go_wp2;rw[rounds_succ];go_wp2_with fail;refine (HG.out _ (by omega) hs).mono ?_;rintro e w1 ⟨v,rfl,ho,hb⟩;have G1:=Yy hg1;have G2:=Yy hg2;have hg0:=(hb.cell (p:=⟨g,0,none⟩) hg).trans hg0;have F1:=Yy (H1.out.below hb Nl);have HB:=Yy hb;clear hb hg1 hg2;go_wp2;refine wp_loop_rounds 4 ?_;rw[rounds_succ];go_wp2_with (at_builtin;refine wpList_append_byt _ rfl _ _ 105 rfl w.heap.size 5 i0 Tryz.underlying105 hi hz0 hz1 hz2 _ 0 [] rfl ho _ A1 l1 c1 f1 rfl F1.out.1 F1.out.2.1 F1.out.2.2 (by omega) HB.out.size ?_;intro v2 w2 ho2 hg2);have HB2:=HB.out.grown hg2 HB.out.size (fun g hg=>own_base ho hg);have hg1:=(HB2.cell (p:=⟨g,1,none⟩) hg).trans G1.out;have F2:=Yy (H2.out.below HB2 Nl);have HB2:=Yy HB2;clear hg2 hg0;rw[List.nil_append]at ho2;rw[rounds_succ];go_wp2_with (at_builtin;refine wpList_append_byt _ rfl _ _ 105 rfl w.heap.size 5 i0 Tryz.underlying105 hi hz0 hz1 hz2 _ _ f1 rfl ho2 _ A2 l2 c2 f2 rfl F2.out.1 F2.out.2.1 F2.out.2.2 (by omega) HB2.out.size ?_;intro v3 w3 ho3 hg3);have HB3:=HB2.out.grown hg3 HB2.out.size (fun g hg=>own_base ho2 hg);have hg2:=(HB3.cell (p:=⟨g,2,none⟩) hg).trans G2.out;have F3:=Yy (H3.out.below HB3 Nl);have HB3:=Yy HB3;clear hg3 hg1 ho ho2;rw[rounds_succ]
 go_wp2_with (at_builtin;refine wpList_append_byt _ rfl _ _ 105 rfl w.heap.size 5 i0 Tryz.underlying105 hi hz0 hz1 hz2 _ _ (f1++f2) rfl ho3 _ A3 l3 c3 f3 rfl F3.out.1 F3.out.2.1 F3.out.2.2 (by omega) HB3.out.size ?_;intro v4 w4 ho4 hg4);have HB4:=Yy (HB3.out.grown hg4 HB3.out.size (fun g hg=>own_base ho3 hg));have HO4:=Yy ho4;clear hg4 hg2 ho3 ho4;rw[rounds_succ];go_wp2;go_ret;exact gives_own HO4.out HB4.out
end
section
open Go.RowKit WM
theorem sl_arr (b:Nat) (w:World):(Instr.sliceAt 31 (.pointer (some ⟨b,0,none⟩)) none none none).run Tryz.prog w=.ok (.slice (some ⟨b,0,none⟩) 16 16) w:=by
 rw[run_sliceAt_array_all w 31 ⟨b,0,none⟩ (show Tryz.prog.underlying 31=some (.array (Tryz.prog.arrayLen 31) (Tryz.prog.elem 31)) by kernel_rfl)];rw[show Tryz.prog.elem 31=5 by kernel_rfl,show Tryz.prog.arrayLen 31=16 by kernel_rfl,sizeByte];simp[Result.andThen,slicedAt,Addr.add]
theorem xat_byt {w:World} {b:Nat} {x:RcA} (h:XAt w b x):BsAt w (some ⟨b,0,none⟩) 16 16 x.R.z:=
 ⟨fun _=>⟨b,0,rfl,h.lt,fun i hi=>h.rec.cellz (by rw[h.1]at hi;exact hi)⟩,h.1,fun h=>by cases h⟩
theorem own_lt {w:World} {base size n g:Nat} {e:TypeId} {v:Value} {xs:List Value} (h:w.ownsRow base e size v n xs) (hg:v.ownBlock=some g):g<w.heap.size:=by
 rcases h.2 with ⟨rfl,_⟩ | ⟨g',cap,cur,rfl,hb,hh,_⟩
 ·simp[Value.ownBlock]at hg
 ·obtain rfl:g'=g:=by simpa [Value.ownBlock] using hg
  exact (Array.getElem?_eq_some_iff.1 hh).1
theorem own_apart {w w':World} {b1 s1 n1 s2 n2:Nat} {e1 e2:TypeId} {v1 v2:Value} {x1 x2:List Value} (h:w.ownsRow b1 e1 s1 v1 n1 x1) (k:w'.ownsRow w.heap.size e2 s2 v2 n2 x2):v2.ownBlock=none∨v2.ownBlock≠v1.ownBlock:=by
 cases ho:v2.ownBlock with
 | none=>exact .inl rfl
 | some g=>exact .inr (fun e=>by have:=own_base k ho;have:=own_lt h e.symm;omega)
theorem putRec_any (x:RcA) (w:World) (h:RvAt w x) (hm:x.R.may=true):Calls Tryz.prog 107 #[.agg x.cells] w (Gives w (renc x.R)):=by
 obtain⟨hmay,hl8,hmem⟩:=may_fs hm;have HX:=Yy (XAt.new (x:=x) w h.len);have HB:=Yy ((Below.refl w.heap.size w).alloc Nl (.cells x.cells 36));have x16:=HX.out.c16;have x17:=HX.out.c17;have HF:=Yy h.2;have HZ:=Yy h.len;have HP:=stPut_yes x.R.n x.R.r (w.alloc (.cells x.cells 36)) hmay;unfold st GivesT at HP;have HP:=Yy HP;have HMM:=Yy hmem;have HE1:=Yy (enc_len (x.R.n*8+x.R.r)).2;have HR:Hid (renc x.R=x.R.z++(enc (x.R.n*8+x.R.r)++(enc x.R.fs.length++x.R.fs.flatMap fenc))):=Yy rfl;have HE2:=Yy (enc_len (x.R.fs.length:Int)).2;have HPG:=Yy (fun w=>put_gives (x.R.fs.length:Int) w (by omega) (by omega));unfold Gives at HPG;have HWR:Hid (IntKind.u64.wrap (x.R.fs.length:Int)=(x.R.fs.length:Int)):=Yy (IntWalk.u64_in _ (by omega));generalize enc (x.R.n*8+x.R.r)=E1 at *;clear h hm hmay hmem;generalize hC:x.cells=C at *;have HCC:=Yy hC;clear hC;go_enter Tryz.func107,Tryz.ntmps107;go_wp2_with fail;refine HP.out.mono ?_;rintro e w2 ⟨A1,n1,k1,rfl,hn1,hnk1,hkm1,hown1,hb1⟩;have B2:=Yy (HB.out.trans (hb1.mono HB.out.size));have O2:=Yy (BsAt.own hown1);have X2:=Yy (HX.out.below hb1 HX.out.lt);clear hn1 hnk1 hkm1 hown1 hb1 x16 x17;go_wp2_with fail;refine wp_region_held_drew (S:=fun w'=>Below w2.heap.size w2 w') (by kernel_rfl) ((Below.refl w2.heap.size w2).drew) (fun hS=>?_);refine YHd 0 (some 16) _ rfl hS (fun w9 hSw=>by (try dsimp only at hSw);go_simp;try with_reducible rfl) ?_
 refine YHd 1 (some 17) (.slice (some ⟨w.heap.size,0,none⟩) 16 16) rfl hS (fun w9 hSw=>by (try dsimp only at hSw);have q0:=sl_arr w.heap.size w9;go_simp;try rfl) ?_;refine YHd 2 (some 18) _ rfl hS (fun w9 hSw=>by (try dsimp only at hSw);go_simp;try with_reducible rfl) ?_;refine YHd 3 (some 19) _ rfl hS (fun w9 hSw=>by (try dsimp only at hSw);go_simp;try with_reducible rfl) ?_;refine YHd 4 (some 20) _ rfl hS (fun w9 hSw=>by (try dsimp only at hSw);have q0:=(X2.out.below hSw X2.out.lt).c18;go_simp;try with_reducible rfl) ?_;refine YHd 5 (some 21) _ rfl hS (fun w9 hSw=>by (try dsimp only at hSw);go_simp;try with_reducible rfl) ?_;refine YHd 6 (some 22) (.int .u64 (x.R.fs.length:Int)) rfl hS (fun w9 hSw=>by (try dsimp only at hSw);have q0:=HWR.out;go_simp;try rfl) ?_;refine wpAnyH_ready (rs:=[7]) (by kernel_rfl) (by simp) (AllReadyH.cons (o:=⟨some 23,_,_,_,_,_⟩) rfl (fun K hK=>?_) AllReadyH.nil);go_simp;refine (HPG.out _).mono ?_;rintro e w4 ⟨A3,n3,k3,rfl,hn3,hnk3,hkm3,hown3,hb3⟩;have hb4:=hS.trans (hb3.mono hS.size);have B4:=Yy (B2.out.trans (hb4.mono B2.out.size));have O4:=Yy (BsAt.own hown3);have P4:=Yy (O2.out.below hb4 Nl);have X4:=Yy (X2.out.below hb4 X2.out.lt);clear hn3 hnk3 hkm3 hown3 hb3 hS;refine hK.out _ _ hb4 (fun hS=>?_);clear hK K;refine wpAnyH_ready (rs:=[8]) (by kernel_rfl) (by simp) (AllReadyH.cons (o:=⟨some 24,_,_,_,_,_⟩) rfl (fun K hK=>?_) AllReadyH.nil);go_simp;refine hK.out _ _ (hb4.alloc hb4.size _) (fun hS=>?_);clear hK K
 have BA:=(Below.refl w4.heap.size w4).alloc Nl (.cells #[.slice (some ⟨w.heap.size,0,none⟩) 16 16,.slice A1 n1 k1,.slice A3 n3 k3] 105);have hh:(w4.alloc (.cells #[.slice (some ⟨w.heap.size,0,none⟩) 16 16,.slice A1 n1 k1,.slice A3 n3 k3] 105)).heap[w4.heap.size]?=some (.cells #[.slice (some ⟨w.heap.size,0,none⟩) 16 16,.slice A1 n1 k1,.slice A3 n3 k3] 105):=heap_alloc_new w4 _;have HC:=Yy (concat3_any w4.heap.size (some ⟨w.heap.size,0,none⟩) A1 A3 16 n1 n3 16 k1 k3 x.R.z E1 (enc x.R.fs.length) _ (by simp) (by rw[cell_of_row _ _ _ _ _ _ hh];rfl) (by rw[cell_of_row _ _ _ _ _ _ hh];rfl) (by rw[cell_of_row _ _ _ _ _ _ hh];rfl) ((xat_byt X4.out).below BA Nl) (P4.out.below BA Nl) (O4.out.below BA Nl) (by have:=O4.out.2.1;have:=P4.out.2.1;have:=HE1.out;have:=HE2.out;omega) (by omega));have B5:=B4.out.alloc B4.out.size (.cells #[.slice (some ⟨w.heap.size,0,none⟩) 16 16,.slice A1 n1 k1,.slice A3 n3 k3] 105);have X5:=X4.out.below BA X4.out.lt;clear BA hh;generalize w4.alloc (.cells #[.slice (some ⟨w.heap.size,0,none⟩) 16 16,.slice A1 n1 k1,.slice A3 n3 k3] 105)=w5 at *;refine wpAnyH_ready (rs:=[9]) (by kernel_rfl) (by simp) (AllReadyH.cons (o:=⟨some 25,_,_,_,_,_⟩) rfl (fun K hK=>?_) AllReadyH.nil);go_simp;refine HC.out.mono ?_;rintro e w6 ⟨A6,n6,k6,rfl,hn6,hnk6,hkm6,hown6,hb6⟩;have hb7:=hS.trans (hb6.mono hS.size);have B6:=Yy (B5.trans (hb6.mono B5.size));have O6:=Yy (own_wide hown6 B5.size);have X6:=Yy (X5.below hb6 X5.lt);have HN6:=Yy hn6;clear hn6 hnk6 hkm6 hown6 hb6 hb4 B5 X5 hS
 refine hK.out _ _ hb7 (fun hS=>?_);clear hK K;refine YHd 10 (some 5) _ rfl hS (fun w9 hSw=>by (try dsimp only at hSw);go_simp;try with_reducible rfl) ?_;refine wpAnyH_done (by kernel_rfl) ?_ _;clear hS hb7;have x18:=X6.out.c18;have HRV:=Yy (show x.R.z++E1++enc x.R.fs.length++(x.R.fs.take 0).flatMap fenc=x.R.z++E1++enc x.R.fs.length by simp);have HLB:=Yy (fun k=>flat_len (g:=fenc) (b:=221) (l:=x.R.fs.take k) fun f hf=>(fenc_len (HMM.out f (List.mem_of_mem_take hf)).2.2).1);have HH:Hid ((x.R.z++E1++enc x.R.fs.length).length≤100):=Yy (by rw[List.length_append,List.length_append,HZ.out];have:=HE1.out;have:=HE2.out;omega);have HEQ:Hid (renc x.R=(x.R.z++E1++enc x.R.fs.length)++x.R.fs.flatMap fenc):=Yy (by rw[HR.out];simp);generalize x.R.z++E1++enc x.R.fs.length=H at *;clear HPG HWR HP HR HE1 HE2;go_wp2;generalize hfs:x.R.fs=fs at *;have HFS:=Yy hfs;generalize hlen:fs.length=len at *;have HLN:=Yy hlen;obtain⟨i0,hi,hz0,hz1,hz2⟩:=info_parts infoByte;clear hfs hlen x18;go_loopw [5,29] (fun v i wr=>∃ (k m:Nat),k≤len∧i=.int .i64 k∧wr.ownsRow w.heap.size 5 1 v m ((H++(fs.take k).flatMap fenc).map (Value.int .u8))∧Below w.heap.size w wr) (fun _ i _=>len - (intOf i).toNat)
 case atStart=>exact⟨0,n6,Nat.zero_le _,rfl,by rw[HRV.out];exact O6.out,B6.out⟩
 case round=>
  obtain⟨k,m,hk,rfl,ho,hb⟩:=hrel;by_cases hlt:k<len
  ·have hF:=HF.out.below hb Nl;obtain⟨_,_,_,h4⟩:=hF;obtain⟨b0,off,hA,hb0,hcc⟩:=h4 (by rw[HLN.out];omega);obtain⟨c0,c1,c2,c3⟩:=hcc k (by rw[HLN.out];exact hlt);have hix:=ix_fld b0 off len x.c k hlt k rfl;have hml:m=(H++(fs.take k).flatMap fenc).length:=by simpa using ho.1.symm
   have hlb:=HLB.out k;have hHH:=HH.out;rw[List.length_take,HLN.out,Nat.min_eq_left hk]at hlb;rw[List.length_append]at hml;have hm9:m≤3000:=by omega
   have hfm:=HMM.out (fs.getD k fld0) (by rw[List.getD_eq_getElem?_getD,List.getElem?_eq_getElem (by rw[HLN.out];exact hlt)];exact List.getElem_mem _);have HNX:Hid (H++(fs.take (k+1)).flatMap fenc=(H++(fs.take k).flatMap fenc)++[(fs.getD k fld0).no]++cenc (fs.getD k fld0).c):=Yy (by
    rw[List.take_add_one,List.flatMap_append,List.getElem?_eq_getElem (by rw[HLN.out];exact hlt),List.getD_eq_getElem?_getD,List.getElem?_eq_getElem (by rw[HLN.out];exact hlt)];simp[fenc])
   generalize fs.getD k fld0=f at *;generalize hP:H++(fs.take k).flatMap fenc=P at *;have hcv:IntKind.u8.wrap f.no=f.no:=IntWalk.u8_in _ (by omega);have HC:=cput_any f.c;unfold CPutPost GivesT Cel.v at HC;simp only[hfm.2.2,if_true]at HC;have HC:=Yy HC;have HLC:=Yy (cenc_len f.c (by have:=(cmay_iff.1 hfm.2.2).2.2;omega)).1;have HO:=Yy ho;have HBB:=Yy hb;have N1:=Yy (FlAt.new wr f);have B1:=Yy (hb.alloc hb.size (.cells #[.int .i64 f.no,.int .i64 f.c.n,.int .i64 f.c.r,.string f.c.s] 59));have O1:=Yy (ho.alloc (.cells #[.int .i64 f.no,.int .i64 f.c.n,.int .i64 f.c.r,.string f.c.s] 59));rw[hA];clear hml hlb hHH hcc h4 ho hb hP hfm;have d1:=N1.out.c1;have d2:=N1.out.c2;have d3:=N1.out.c3;go_wp2_with fail;refine (HC.out _).mono ?_;rintro e w7 ⟨A7,n7,k7,rfl,hn7,hnk7,hkm7,hown7,hb7⟩;have e0:=(N1.out.below hb7 N1.out.lt).c0;have B7:=Yy (B1.out.trans (hb7.mono B1.out.size));have O7:=Yy ((own_below O1.out hb7).alloc (.cells #[.int .u8 f.no] 5));have B8:=Yy (B7.out.alloc B7.out.size (.cells #[.int .u8 f.no] 5));have S7:=Yy (hown7.alloc (.cells #[.int .u8 f.no] 5));have HNE:=Yy (own_apart O1.out hown7);have Y8:Hid (Byt (w7.alloc (.cells #[.int .u8 f.no] 5)) (w7.alloc (.cells #[.int .u8 f.no] 5)).heap.size (some ⟨w7.heap.size,0,none⟩) [f.no]):=Yy (fun _=>⟨w7.heap.size,0,rfl,by rw[World.size_alloc];omega,fun i hi=>by
    obtain rfl:i=0:=by simpa using hi
    have hh:(w7.alloc (.cells #[.int .u8 f.no] 5)).heap[w7.heap.size]?=some (.cells #[.int .u8 f.no] 5):=heap_alloc_new w7 _;rw[cell_of_row _ _ _ _ _ _ hh];rfl⟩)
   have HN7:=Yy hn7;clear hn7 hnk7 hkm7 hown7 hb7 d1 d2 d3 c0 c1 c2 c3;go_wp2_with (first | (at_builtin;refine wpList_append_byt _ rfl (.tmp 39) (.tmp 43) 105 rfl w.heap.size 5 i0 Tryz.underlying105 hi hz0 hz1 hz2 _ m P rfl O7.out _ (some ⟨w7.heap.size,0,none⟩) 1 1 [f.no] rfl Y8.out rfl (fun h=>by cases h) (by omega) B8.out.size ?_;intro v8 w8 ho8 hg8;have O8:=Yy ho8;have B9:=Yy (B8.out.grown hg8 B8.out.size (fun g hg=>own_base O7.out hg));have S8:=Yy (BsAt.own (S7.out.kept hg8 HNE.out));clear ho8 hg8) | (at_builtin;refine wpList_append_byt _ rfl (.tmp 44) (.tmp 45) 105 rfl w.heap.size 5 i0 Tryz.underlying105 hi hz0 hz1 hz2 _ (m+1) (P++[f.no]) rfl O8.out _ A7 n7 k7 (cenc f.c) rfl S8.out.1 S8.out.2.1 S8.out.2.2 (by have:=HN7.out;have:=HLC.out;omega) B9.out.size ?_;intro v9 w9 ho9 hg9;have O9:=Yy ho9;have B10:=Yy (B9.out.grown hg9 B9.out.size (fun g hg=>own_base O8.out hg));clear ho9 hg9));go_roundw
   case rel=>exact⟨k+1,m+1+n7,by omega,by go_num,by rw[HNX.out];exact O9.out,B10.out⟩
   case measure=>simp[intOf];omega
  ·have hkn:k=len:=by omega
   subst hkn;have t1:¬ (k:Int)<(k:Int):=by omega
   have HO:=Yy ho;have HBB:=Yy hb;clear ho hb;go_wp2;go_ret;rw[HEQ.out,← List.take_length (l:=fs),HLN.out];exact gives_own HO.out HBB.out
def PutPost (w:World) (X:List Rc) (e:Ending) (w':World):Prop:=
 if bmay X then GivesT w (benc X) e w' else e=.returned (.tuple #[.slice none 0 0,.bool false])∧Below w.heap.size w w'
theorem put_book (b:Bk) (w:World) (h:BkAt w b):Calls Tryz.prog 80 #[.agg #[.slice b.A b.xs.length b.c]] w (PutPost w b.rs):=by
 have S0:=Yy (BoAt.new w (.slice b.A b.xs.length b.c));have HB:=Yy ((Below.refl w.heap.size w).alloc Nl (.cells #[.slice b.A b.xs.length b.c] 24));have HM:=Yy (bmay_any b _ (h.below HB.out Nl));have s0:=S0.out.c0;cases hm:bmay b.rs
 ·have HV:Hid (∀ e w',e=.returned (.tuple #[.slice none 0 0,.bool false])∧Below w.heap.size w w'→PutPost w b.rs e w'):=Yy (fun e w' h1=>by unfold PutPost;rw[hm];exact h1);rw[hm]at HM;clear hm h;go_enter Tryz.func80,Tryz.ntmps80;go_wp2_with fail;refine HM.out.mono ?_;rintro e w1 ⟨rfl,hb⟩;have B1:=Yy (HB.out.trans (hb.mono HB.out.size));clear hb s0;go_wp2
  go_ret2
  exact HV.out _ _ ⟨rfl,B1.out⟩
 ·have HV:Hid (∀ e w',GivesT w (benc b.rs) e w'→PutPost w b.rs e w'):=Yy (fun e w' h1=>by unfold PutPost;rw[hm];exact h1);obtain⟨h10,hall,_⟩:=bmay_iff.1 hm;rw[hm]at HM;have HXS:=Yy h.2.2.2.2;have HCELL:=Yy h.2.2.2.1;have hcap:=h.2.1;simp only[maxLen]at hcap;have hlc:=h.1;have HMAY:Hid (∀ x∈b.xs,x.R.may=true):=Yy (fun x hx=>hall x.R (List.mem_map_of_mem hx));have HLB:=Yy (fun k=>flat_len (g:=renc) (b:=2000) (l:=b.rs.take k) fun R hR=>by
   obtain⟨x,hx,rfl⟩:=List.mem_map.1 (List.mem_of_mem_take hR);exact renc_len (HXS.out x hx).len (HMAY.out x hx))
  have hbl:b.rs.length=b.xs.length:=by unfold Bk.rs;rw[List.length_map]
  have HBL:=Yy hbl;rw[hbl]at h10;have HHL:=Yy (enc_len (b.xs.length:Int)).2;have HEQ:Hid (benc b.rs=enc b.xs.length++b.rs.flatMap renc):=Yy (by unfold benc;rw[hbl]);have HPG:=put_gives (b.xs.length:Int);unfold Gives at HPG;have HPG:=Yy (fun w=>HPG w (by omega) (by omega));have hwr:IntKind.u64.wrap (b.xs.length:Int)=(b.xs.length:Int):=IntWalk.u64_in _ (by omega);generalize hH:enc (b.xs.length:Int)=H at *;obtain⟨i0,hi,hz0,hz1,hz2⟩:=info_parts infoByte;have hz:=zeroX;clear hm h hall hbl hH;generalize hlen:b.xs.length=len at *;have HLN:=Yy hlen;clear hlen;go_enter Tryz.func80,Tryz.ntmps80;go_wp2_with fail;refine HM.out.mono ?_;rintro e w1 ⟨rfl,hb⟩;have B1:=Yy (HB.out.trans (hb.mono HB.out.size));have S1:=Yy (S0.out.below hb S0.out.lt);clear hb s0;have s0:=S1.out.c0;go_wp2_with fail;refine (HPG.out _).mono ?_;rintro e w2 ⟨A2,n2,k2,rfl,hn2,hnk2,hkm2,hown2,hb2⟩;have B2:=Yy (B1.out.trans (hb2.mono B1.out.size));have O2:=Yy (own_wide hown2 B1.out.size);have s2:=(S1.out.below hb2 S1.out.lt).c0;clear s0 hn2 hnk2 hkm2 hown2 hb2;go_wp2;clear s2;go_loopw [4,18] (fun v i wr=>∃ (k m:Nat),k≤len∧i=.int .i64 k∧wr.ownsRow w.heap.size 5 1 v m ((H++(b.rs.take k).flatMap renc).map (Value.int .u8))∧Below w.heap.size w wr) (fun _ i _=>len - (intOf i).toNat)
  case atStart=>exact⟨0,n2,Nat.zero_le _,rfl,by simp only[List.take_zero,List.flatMap_nil,List.append_nil];exact O2.out,B2.out⟩
  case round=>
   obtain⟨k,m,hk,rfl,ho,hb⟩:=hrel;by_cases hlt:k<len
   ·obtain⟨b0,off,hA,hb0,hcc⟩:=HCELL.out (by omega);have hkl:k<b.xs.length:=by rw[HLN.out];exact hlt
    have hrec:=(hcc k hlt).same (hb.block b0 hb0);have hix:=ix_rec b0 off len b.c k hlt k rfl;have hml:m=(H++(b.rs.take k).flatMap renc).length:=by simpa using ho.1.symm
    have hlb:=HLB.out k;have hHH:=HHL.out;rw[List.length_take,HBL.out,Nat.min_eq_left hk]at hlb;rw[List.length_append]at hml;have hm9:m≤30000:=by omega
    have hmem:b.xs.getD k rcA0∈b.xs:=by rw[List.getD_eq_getElem?_getD,List.getElem?_eq_getElem hkl];exact List.getElem_mem _
    have hrs:b.rs[k]?=some (b.xs.getD k rcA0).R:=by
     unfold Bk.rs;rw[List.getElem?_map,List.getD_eq_getElem?_getD,List.getElem?_eq_getElem hkl]
     rfl
    have HNX:Hid (H++(b.rs.take (k+1)).flatMap renc=(H++(b.rs.take k).flatMap renc)++renc (b.xs.getD k rcA0).R):=Yy (by
     rw[List.take_add_one,List.flatMap_append,hrs];simp)
    have HXV:=Yy ((HXS.out _ hmem).below hb Nl);have hxm:=HMAY.out _ hmem;generalize b.xs.getD k rcA0=x at *;generalize hP:H++(b.rs.take k).flatMap renc=P at *;have LX:=Yy hrec.load;have HZ16:=Yy HXV.out.len;have HLR:=Yy (renc_len HXV.out.len hxm);have HO:=Yy ho;have HBB:=Yy hb;have HXM:=Yy hxm;rw[hA];clear hml hlb hHH hcc ho hb hP hmem hrs hrec hxm hkl;go_wp2_with (first | ((with_reducible refine YyL 36 (.tmp 20) ⟨b0,off+k*19,none⟩ LX.out ?_ ?_ ?_);rfl;rfl) | ((with_reducible refine wpList_store_newx (o:=⟨none,.store 36 (.tmp 6) (.tmp 21),_,_,_,_⟩) (w:=wr) ?_ (.tmp 6) (.tmp 21) ?_ wr.heap.size ?_ ?_ x ?_ HZ16.out ?_);rfl;rfl;rfl;rfl;rfl;intro w5 hb5 hx5 hs5;have L5:=Yy hx5.load;have B5:=Yy (HBB.out.trans (hb5.mono HBB.out.size));have O5:=Yy (own_below HO.out hb5);have HPR0:=putRec_any x w5 (HXV.out.below hb5 Nl) HXM.out;unfold Gives at HPR0;have HPR:=Yy HPR0;clear hb5 hx5 hs5 HPR0) | ((with_reducible refine YyL 36 (.tmp 6) ⟨wr.heap.size,0,none⟩ L5.out ?_ ?_ ?_);rfl;rfl));refine HPR.out.mono ?_;rintro e w7 ⟨A7,n7,k7,rfl,hn7,hnk7,hkm7,hown7,hb7⟩;have B7:=Yy (B5.out.trans (hb7.mono B5.out.size));have O7:=Yy (own_below O5.out hb7);have S7:=Yy (BsAt.own hown7);have HN7:=Yy hn7;clear hn7 hnk7 hkm7 hown7 hb7
    go_wp2_with (at_builtin;refine wpList_append_byt _ rfl (.tmp 22) (.tmp 24) 105 rfl w.heap.size 5 i0 Tryz.underlying105 hi hz0 hz1 hz2 _ m P rfl O7.out _ A7 n7 k7 (renc x.R) rfl S7.out.1 S7.out.2.1 S7.out.2.2 (by have:=HN7.out;have:=HLR.out;omega) B7.out.size ?_;intro v9 w9 ho9 hg9;have O9:=Yy ho9;have B10:=Yy (B7.out.grown hg9 B7.out.size (fun g hg=>own_base O7.out hg));clear ho9 hg9);go_roundw
    case rel=>exact⟨k+1,m+n7,by omega,by go_num,by rw[HNX.out];exact O9.out,B10.out⟩
    case measure=>simp[intOf];omega
   ·have hkn:k=len:=by omega
    subst hkn;have t1:¬ (k:Int)<(k:Int):=by omega
    have HO:=Yy ho;have HBB:=Yy hb;clear ho hb;go_wp2
    go_ret2
    refine HV.out _ _ ?_;rw[HEQ.out,← List.take_length (l:=b.rs),HBL.out];exact givesT_own HO.out HBB.out
def z32k:List Int:=List.replicate 32 0
theorem z32k_len:z32k.length=32:=by rw[z32k,List.length_replicate]
theorem zeroDk (w:World):(zeroValue 26).run Tryz.prog w=.ok (.agg (bvals z32k)) w:=zeroD w
theorem wpList_store_digo {w:World} {ops:Array Oper} {rest:List Oper} {o:Oper} {a:Act} {Q:Exit→Act→World→Prop} (hgd:o.guard=none) (x y:Operand) (hop:o.op=.store 26 x y)
  (b:Nat) (l0:List Int) (hb:BRow w b 26 l0) (h0:l0.length=32) (hx:a.eval x=.pointer (some ⟨b,0,none⟩)) (l:List Int) (hl:l.length=32) (hy:a.eval y=.agg (bvals l))
  (hK:∀ w',w.grownBy w' (some b)→BRow w' b 26 l→wpList Tryz.prog ops Q rest (a.put o.dst undef) w'):wpList Tryz.prog ops Q (o::rest) a w:=by
 refine wpList_store_row hgd 26 x y hop b (bvals l) hx hy 26 _ hb (by rw[sizeD,bvals_size,hl]) (by rw[bvals_size,bvals_size,hl,h0]) (bvals_one l) ?_;exact hK _ (grownBy_setRow w b _) (hb.put l)
theorem res_digk {fn:Func} {p:Tmp} (h:fn.results=#[.cell p 26]) {tmps:Array Value} {w:World} {b:Nat} {l:List Int} (hp:tmps.getD p undef=.pointer (some ⟨b,0,none⟩)) (hs:BRow w b 26 l) (hl:l.length=32):
  (results fn tmps).run Tryz.prog w=.ok (.agg (bvals l)) w:=by
 have hp':tmps[p]?.getD undef=.pointer (some ⟨b,0,none⟩):=by simpa using hp
 have hld:(loadVar 26 ⟨b,0,none⟩).run Tryz.prog w=.ok (.agg (bvals l)) w:=run_loadVar_row w b 26 26 _ (0,0) _ hs Tryz.underlying26 rfl (by rw[sizeD,bvals_size,hl]);simp[results,h,hp',asAddr,hld]
def bbs (X:List Rc):List Int:=if bmay X then benc X else []
theorem Tta21 {p:Prop} (h:p:=by
  go_wp2_with fail;refine HSU.out.mono ?_;rintro e w2 ⟨rfl,hb⟩;have B2:=Yy (B1.out.trans (hb.mono B1.out.size));have D2:=Yy (D1.out.below hb D1.out.lt);clear hb;go_wp2_with (first | ((with_reducible refine wpList_store_digo (o:=⟨none,.store 26 (.tmp 2) (.tmp 11),_,_,_,_⟩) ?_ (.tmp 2) (.tmp 11) ?_ (w.heap.size+1) _ D2.out z32k_len ?_ D HLEN.out ?_ ?_);rfl;rfl;rfl;rfl;intro w9 hg9 hx9;have X9:=Yy hx9;have B9:=Yy (B2.out.grown hg9 B2.out.size (fun k e=>by have:=Option.some.inj e;omega));clear hg9 hx9));refine bodyPost_ret (v:=.agg (bvals D)) ?_ rfl ?_
  ·exact res_digk Tryz.results50 rfl X9.out HLEN.out
  ·exact HV.out _ B9.out
 ):p:=h
theorem digest_any (b:Bk) (w:World) (hlaid:Laid w) (h:BkAt w b):Calls Tryz.prog 50 #[.agg #[.slice b.A b.xs.length b.c]] w (DSumPost (bbs b.rs) w):=by
 have S0:=Yy ((BoAt.new w (.slice b.A b.xs.length b.c)).old (.cells (bvals z32k) 26));have HB:=Yy (((Below.refl w.heap.size w).alloc Nl (.cells #[.slice b.A b.xs.length b.c] 24)).alloc (by simp) (.cells (bvals z32k) 26));have d0:=BRow.new (w.alloc (.cells #[.slice b.A b.xs.length b.c] 24)) 26 z32k;rw[World.size_alloc]at d0;have D0:=Yy d0;have HP:=put_book b _ (h.below HB.out Nl);have s0:=S0.out.c0;have hz:=zeroDk;have HLA:=Yy (fun (X:World) (hX:Below w.heap.size w X)=>hlaid.below hX Nl);have HLEN:=Yy (SH.sum_len (bbs b.rs));have HV:Hid (∀ w',Below w.heap.size w w'→DSumPost (bbs b.rs) w (.returned (.agg (bvals (SH.sum (bbs b.rs))))) w'):=Yy (fun w' h=>⟨rfl,h⟩);have hok:=bk_ok h;clear hlaid d0;cases hm:bmay b.rs
 ·have HX:=Yy (show bbs b.rs=[] by unfold bbs;rw[hm];rfl);unfold PutPost at HP;simp only[hm,Bool.false_eq_true,if_false]at HP;rw[HX.out]at HV HLEN;have HP:=Yy HP;clear hm h hok;generalize hS:SH.sum []=D at *;rw[HX.out];go_enter Tryz.func50,Tryz.ntmps50;go_wp2_with fail;refine HP.out.mono ?_;rintro e w1 ⟨rfl,hb⟩;have B1:=Yy (HB.out.trans (hb.mono HB.out.size));have D1:=Yy (D0.out.below hb D0.out.lt);have HSU0:=dsum_any (B:=0) none 0 0 [] w1 (HLA.out _ B1.out) Byt.nil rfl Nl (by decide) (by decide) (fun _=>rfl) (fun z hz=>by cases hz) (Nat.zero_le _);unfold DSumPost at HSU0;rw[hS]at HSU0;have HSU:=Yy HSU0;clear hb s0 HSU0;exact Tta21
 ·have HX:=Yy (show bbs b.rs=benc b.rs by unfold bbs;rw[hm];rfl);unfold PutPost GivesT at HP;simp only[hm,if_true]at HP;rw[HX.out]at HV HLEN;have HP:=Yy HP;have HBY:=Yy (benc_bytes hm hok);have HBL:=Yy (benc_len hm fun R hR=>(hok R hR).1);rw[HX.out];clear hm h hok;generalize benc b.rs=Z at *;generalize hS:SH.sum Z=D at *;go_enter Tryz.func50,Tryz.ntmps50;go_wp2_with fail;refine HP.out.mono ?_;rintro e w1 ⟨A1,n1,k1,rfl,hn1,hnk1,hkm1,hown1,hb⟩;have B1:=Yy (HB.out.trans (hb.mono HB.out.size));have D1:=Yy (D0.out.below hb D0.out.lt);have hbs:=BsAt.own hown1;have HSU0:=dsum_any A1 n1 k1 Z w1 (HLA.out _ B1.out) hbs.1 hn1 hnk1 hkm1 (by have:=HBL.out;omega) hbs.2.2 HBY.out Nl;unfold DSumPost at HSU0;rw[hS]at HSU0;have HSU:=Yy HSU0;clear hb s0 HSU0 hn1 hnk1 hkm1 hown1 hbs;exact Tta21
end
end
section
open Go.RowKit WM
def mn0:Mn:=⟨z32m,[]⟩
noncomputable def mofB (rs:List Rc):Option Mn:=if bmay rs=true then some (mof SH.sum (SH.sum (bbs rs)) rs) else none
def MofPost (w:World) (o:Option Mn) (e:Ending) (w':World):Prop:=∃ m:MnA,e=.returned (.tuple #[m.v,.bool o.isSome])∧m.m=o.getD mn0∧m.Ok w'∧Below w.heap.size w w'
theorem mnA0_ok (w:World):mnA0.Ok w:=⟨rfl,by show AllBytes z32m;unfold AllBytes z32m;decide,Kind.row_nil w none 0 (by decide) (fun _=>rfl)⟩
theorem mn_size {m:MnA} {w:World} (h:m.Ok w):(Tryz.prog.info? 29).map (·.size)=some m.cs.toArray.size:=by
 rw[List.size_toArray,MnA.len h];obtain⟨i,hi,_,hs,_⟩:=info_parts infoMn;rw[hi];exact congrArg some hs
theorem mn_ones (m:MnA):m.cs.toArray.all (·.oneCell')=true:=mnP_one m.base rfl
theorem mnA0_size:mnA0.cs.toArray.size=33:=by decide
theorem buildMn0 (w:World):(Instr.build 29 #[]).run Tryz.prog w=.ok (.agg mnA0.cs.toArray) w:=run_build w _ _ _ (by kernel_rfl)
theorem res_mn2 {fn:Func} {p q:Tmp} (h:fn.results=#[.cell p 29,.tmp q]) {tmps:Array Value} {w:World} {g:Nat} {m:MnA} (hp:tmps.getD p undef=.pointer (some ⟨g,0,none⟩)) (hs:MnAt w g m) (hm:m.Ok w):
  (results fn tmps).run Tryz.prog w=.ok (.tuple #[m.v,tmps.getD q undef]) w:=by
 have hp':tmps[p]?.getD undef=.pointer (some ⟨g,0,none⟩):=by simpa using hp
 have hl:=load_mn hs hm;simp[results,h,hp',asAddr,hl]
theorem RJ.mn {bl base:Nat} {z:List Int} {A:Option Addr} {c:Nat} {ls:List LnA} {W:World} (h:RJ TLn 63 29 bl base (mnP z) (.slice A ls.length c) ls W) (hz:z.length=32∧AllBytes z):MnA.Ok W ⟨z,A,c,ls⟩∧MnAt W bl ⟨z,A,c,ls⟩∧∀ g cur,W.heap[g]?=some (.cells cur 29)→∀ W',W.grownBy W' (some g)→MnA.Ok W' ⟨z,A,c,ls⟩:=by
 have hr:=Kind.row_own (K:=KLn) h.own fun e he=>(h.ok e he).1;refine⟨⟨hz.1,hz.2,hr⟩,h.blk,fun g cur hg W' hG=>⟨hz.1,hz.2,Kind.row_kept hr (Tag.own h.own) hG (NoT.of hg (by decide)) fun e he=>(LnA.kept (h.ok e he).1 (h.ok e he).2 hG (NoT.of hg (by decide))).1⟩⟩
theorem Tta27 {p:Prop} (h:p:=by
  generalize hv4:(Value.slice (some ⟨g13,0,none⟩) (ls.length+1) cap13)=v4 at *;clear hv4;have HM2:=Yy (show (ls++[y]).map (fun l:LnA=>l.x)=(rs.take (k+1)).map (mofL SH.sum) by
   rw[HTK.out,List.map_append,List.map_append,HMP.out];simp only[List.map_cons,List.map_nil,HYX.out])
  go_wp2;go_roundw
  case rel=>exact⟨k+1,ls++[y],v4,by omega,by go_num,by rw[List.length_append,HKE.out];rfl,SE.out.b,JE.out,HM2.out⟩
  case measure=>simp[intOf];omega
 ):p:=h
theorem pof12_any (d:Bk) (w:World) (hlaid:Laid w) (h:BkAt w d):Calls Tryz.prog 21 #[.agg #[.slice d.A d.xs.length d.c]] w (MofPost w (mofB d.rs)):=by
 have HLA:=Yy (fun (X:World) (hX:Below w.heap.size w X)=>hlaid.below hX Nl);have HBK:=Yy h;have T1:=(BoAt.new w (.slice d.A d.xs.length d.c)).old (.cells mnA0.cs.toArray 29);have M1:MnAt ((w.alloc (.cells #[.slice d.A d.xs.length d.c] 24)).alloc (.cells mnA0.cs.toArray 29)) (w.heap.size+1) mnA0:=by
  have:=MnAt.new (w.alloc (.cells #[.slice d.A d.xs.length d.c] 24)) mnA0;rw[World.size_alloc]at this;exact this
 have B1:=Yy (((Below.refl w.heap.size w).alloc Nl (.cells #[.slice d.A d.xs.length d.c] 24)).alloc (by rw[World.size_alloc];omega) (.cells mnA0.cs.toArray 29));have HCM:=Yy (bmay_any d _ (h.below B1.out Nl));have HCD:=Yy (fun X (hX:Below w.heap.size w X)=>digest_any d X (hlaid.below hX Nl) (h.below hX Nl));unfold DSumPost at HCD;have LB1:=Yy T1.load;have TT1:=Yy T1;have MM1:=Yy M1;have hz:=zeroMn;rw[show mnA0.v=.agg mnA0.cs.toArray from rfl]at hz;have hzne:¬ mnA0.cs.toArray=#[]:=by decide
 have HRV:=Yy (fun i (hi:i<d.xs.length)=>RsAt.rv h hi);have HCELL:=Yy h.2.2.2.1;have hlc:=h.1;have hcm:=h.2.1;simp only[maxLen]at hcm;have HV:=Yy (show mofB d.rs=if bmay d.rs=true then some (mof SH.sum (SH.sum (bbs d.rs)) d.rs) else none from rfl);have HMB:=Yy (show bmay d.rs=true→∀ k,k<d.xs.length→Rc.may (d.xs.getD k rcA0).R=true from fun hm k hk=>(bmay_iff.1 hm).2.1 _ (List.mem_map.2 ⟨_,by rw[List.getD_eq_getElem?_getD,List.getElem?_eq_getElem hk];exact List.getElem_mem _,rfl⟩));have HM10:=Yy (show bmay d.rs=true→d.xs.length≤10 from fun hm=>by have:=(bmay_iff.1 hm).1;unfold Bk.rs at this;rwa[List.length_map]at this);have HRS:=Yy (show ∀ k,k<d.xs.length→d.rs.take (k+1)=d.rs.take k++[(d.xs.getD k rcA0).R] from fun k hk=>by
  unfold Bk.rs;rw[List.take_succ_eq_append_getElem (by rw[List.length_map];exact hk),List.getElem_map,List.getD_eq_getElem?_getD,List.getElem?_eq_getElem hk]
  rfl)
 have HRL:=Yy (show d.rs.length=d.xs.length by unfold Bk.rs;rw[List.length_map]);have HDL:=Yy (SH.sum_len (bbs d.rs));have HDB:=Yy (SH.sum_bytes (bbs d.rs));generalize mofB d.rs=V at *;generalize SH.sum (bbs d.rs)=D at *;generalize hrs:d.rs=rs at *;obtain⟨xs,A,c⟩:=d;dsimp only at *;have HSZ0:=Yy (show ∀ X:World,X=((w.alloc (.cells #[.slice A xs.length c] 24)).alloc (.cells mnA0.cs.toArray 29))→X.heap.size=w.heap.size+1+1 from fun X e=>by rw[e];simp[World.size_alloc]);generalize hnl:xs.length=n at *;clear T1 M1 h hlaid hrs;cases hm:bmay rs
 ·rw[hm]at HCM HV;have HF:=Yy (show V=none by rw[HV.out];rfl);clear HV HMB HM10 hm;have HB0:=Yy buildMn0;go_enter Tryz.func21,Tryz.ntmps21;go_wp2_with (first | ((with_reducible refine YyL 24 (.tmp 1) ⟨w.heap.size,0,none⟩ LB1.out ?_ ?_ ?_);rfl;rfl));refine HCM.out.mono ?_;rintro e w1 ⟨rfl,hb1⟩;have M2:=Yy (MM1.out.below hb1 MM1.out.lt);have B2:=Yy (B1.out.trans (hb1.mono B1.out.size));have SZ0:=Yy (mn_size (mnA0_ok w1));have SO0:=Yy (mn_ones mnA0);have XB:=Yy (show MnAt (w1.setRow (w.heap.size+1) mnA0.cs.toArray) (w.heap.size+1) mnA0 from setRow_heap _ _ _ _ _ _ M2.out);have BX:=Yy (below_setRow B2.out (show w.heap.size≤w.heap.size+1 by omega) mnA0.cs.toArray);have NB:=Yy M2.out;unfold MnAt at NB;clear hb1;go_wp2_with (first | ((with_reducible refine wpList_build_at (o:=⟨some 10,.build 29 #[],_,_,_,_⟩) ?_ 29 #[] ?_ #[] ?_ _ (HB0.out _) ?_);rfl;rfl;simp) | ((with_reducible refine wpList_store_row (o:=⟨none,.store 29 (.tmp 2) (.tmp 10),_,_,_,_⟩) ?_ 29 (.tmp 2) (.tmp 10) ?_ (w.heap.size+1) mnA0.cs.toArray ?_ ?_ 29 _ NB.out SZ0.out rfl SO0.out ?_);rfl;rfl;rfl;rfl));refine bodyPost_ret (v:=.tuple #[mnA0.v,.bool false]) ?_ rfl ?_
  ·exact res_mn2 Tryz.results21 rfl XB.out (mnA0_ok _)
  ·rw[HF.out];exact⟨mnA0,rfl,rfl,mnA0_ok _,BX.out⟩
 ·rw[hm]at HCM HV;have HF:=Yy (show V=some (mof SH.sum D rs) by rw[HV.out];rfl);have HMB:=Yy (HMB.out hm);have HM10:=Yy (HM10.out hm);clear HV hm;have HB1:=Yy (build_mn HDL.out);have SZ1:=Yy (size_pre (v:=Value.slice none 0 0) (show (Tryz.prog.info? 29).map (·.size)=some (32+1) by kernel_rfl) (mnP_len HDL.out));have SQ1:=Yy (show mnA0.cs.toArray.size=(mnP D++[Value.slice none 0 0]).toArray.size by rw[mnA0_size,List.size_toArray,List.length_append,← mnP_len HDL.out];rfl);have SO1:=Yy (mnP_one D (v:=.slice none 0 0) rfl);have HP32:=Yy (mnP_len HDL.out);generalize hE2:(mnP D++[Value.slice none 0 0]).toArray=E2 at *;go_enter Tryz.func21,Tryz.ntmps21;go_wp2_with (first | ((with_reducible refine YyL 24 (.tmp 1) ⟨w.heap.size,0,none⟩ LB1.out ?_ ?_ ?_);rfl;rfl));refine HCM.out.mono ?_;rintro e w1 ⟨rfl,hb1⟩;have T2:=Yy (TT1.out.below hb1 TT1.out.lt);have M2:=Yy (MM1.out.below hb1 MM1.out.lt);have B2:=Yy (B1.out.trans (hb1.mono B1.out.size));have HS1:=Yy (show w.heap.size+1+1≤w1.heap.size by have:=hb1.size;rw[HSZ0.out _ rfl]at this;exact this);have LB2:=Yy T2.out.load;clear hb1;go_wp2_with (first | ((with_reducible refine YyL 24 (.tmp 1) ⟨w.heap.size,0,none⟩ LB2.out ?_ ?_ ?_);rfl;rfl));refine (HCD.out w1 B2.out).mono ?_;rintro e w2 ⟨rfl,hb2⟩;have T3:=Yy (T2.out.below hb2 T2.out.lt);have M3:=Yy (M2.out.below hb2 M2.out.lt);have B3:=Yy (B2.out.trans (hb2.mono B2.out.size));have HS2:=Yy (show w.heap.size+1+1≤w2.heap.size from Nat.le_trans HS1.out hb2.size)
  have s0:=(T3.out.old (.cells E2 29)).c0;clear hb2;go_wp2_with (first | ((with_reducible refine wpList_build_at (o:=⟨some 13,.build 29 #[(0,.tmp 12)],_,_,_,_⟩) ?_ 29 #[(0,.tmp 12)] ?_ #[(0,.agg (bvals D))] ?_ _ (HB1.out _) ?_);rfl;rfl;(simp only[List.map_toArray,List.map_cons,List.map_nil];rfl)) | ((with_reducible refine wpList_store_new (o:=⟨none,.store 29 (.tmp 4) (.tmp 13),_,_,_,_⟩) ?_ 29 (.tmp 4) (.tmp 13) ?_ ?_ mnA0.cs.toArray E2 ?_ SZ1.out SQ1.out SO1.out ?_);rfl;rfl;rfl;rfl));have J0:RJ TLn 63 29 w2.heap.size (w2.heap.size+1) (mnP D) (.slice none 0 0) [] (w2.alloc (.cells E2 29)):=by
   refine⟨?_,World.ownsRow_nil _ _ _ _,(fun e he=>by cases he),by omega,by rw[World.size_alloc];exact Nat.le_refl _⟩;rw[hE2];exact heap_alloc_new w2 _
  have JJ0:=Yy J0;have BW0:=Yy (B3.out.alloc B3.out.size (.cells E2 29));have HWS:=Yy (World.size_alloc w2 (.cells E2 29));have M4:=Yy (M3.out.below ((Below.refl _ _).alloc Nl (.cells E2 29)) M3.out.lt);generalize hW0:w2.alloc (.cells E2 29)=W0 at *;generalize w2.heap.size=bl at *;have HBL:=Yy (show bl≤W0.heap.size by have:=HWS.out;omega);have HWL:=Yy (show w.heap.size≤bl by have:=HS2.out;omega);clear s0 J0 hW0 hE2 hz hzne;have hz:=zeroX;go_loopw [17] (fun i wr=>∃ (k:Nat) (ls:List LnA) (v:Value),k≤n∧i=.int .i64 k∧ls.length=k∧Below bl W0 wr∧RJ TLn 63 29 bl (bl+1) (mnP D) v ls wr∧ls.map (fun l:LnA=>l.x)=(rs.take k).map (mofL SH.sum)) (fun i _=>n - (intOf i).toNat)
  case atStart=>exact⟨0,[],.slice none 0 0,Nat.zero_le _,rfl,rfl,Below.refl _ _,JJ0.out,rfl⟩
  case round=>
   obtain⟨k,ls,v,hk,rfl,hke,hb,hJ,hmp⟩:=hrel;have HKE:=Yy hke;have HMP:=Yy hmp;have HJ:=Yy hJ;have BWR:=Yy (BW0.out.trans (hb.mono HWL.out));clear hJ hmp hke;by_cases hlt:k<n
   ·have t1:(k:Int)<(n:Int):=by omega
    obtain⟨b,off,rfl,hbB,hcc⟩:=HCELL.out (by omega);have hx:=(hcc k hlt).same (BWR.out.block b hbB);have IX:=ix_rec b off n c k hlt k rfl;have HXV:=Yy (HRV.out k hlt);have HXM:=Yy (HMB.out k hlt);have HTK:=Yy (HRS.out k hlt);generalize xs.getD k rcA0=x at *;generalize off+k*19=o at *;have LX:=Yy hx.load;have HXZ:=Yy HXV.out.len;have SZX:=Yy (x_size HXZ.out);have SQX:=Yy (show rcA0.cells.size=x.cells.size from (rcells_size z16_len _ _ _).trans (cells_len HXZ.out).symm);have SOX:=Yy (x_one x);have HCB:=Yy (fun w9 (h9:Below w.heap.size w w9)=>lineOf_any x w9 (HLA.out w9 h9) (HXV.out.below h9 Nl) (by have:=rmay_len HXM.out;omega) (may_FOk HXM.out) (wf_may (by have h:=HXM.out;unfold Rc.may rmay at h;simp only[Bool.and_eq_true]at h;exact h.1.1)));unfold LOPost at HCB;have hO:=Yy (HJ.out.alloc (.cells x.cells 36));have hS0:=Yy (show Fr bl W0 wr.heap.size x.cells 36 (wr.alloc (.cells x.cells 36)) from⟨hb.trans ((Below.refl _ _).alloc (by have:=HBL.out;have:=hb.size;omega) _),heap_alloc_new wr _⟩);have HNE:=Yy (show wr.heap.size≠bl by have:=HWS.out;have:=hb.size;omega);have HLE:=Yy (show ls.length≤90000 by have:=HKE.out;have:=HM10.out;omega);clear hcc hb hx;go_wp2_with (first | ((with_reducible refine YyL 36 (.tmp 19) ⟨b,o,none⟩ LX.out ?_ ?_ ?_);rfl;rfl) | ((with_reducible refine wpList_store_new (o:=⟨none,.store 36 (.tmp 6) (.tmp 20),_,_,_,_⟩) ?_ 36 (.tmp 6) (.tmp 20) ?_ ?_ rcA0.cells x.cells ?_ SZX.out SQX.out SOX.out ?_);rfl;rfl;rfl;rfl));clear IX
    refine wp_region_held_drew (S:=fun w9=>Fr bl W0 wr.heap.size x.cells 36 w9) (by kernel_rfl) (hS0.out.below HBL.out ((Below.refl _ _).drew)) (fun hS=>?_);have J1:=Yy hO.out.drew;have S2:=Yy hS;generalize World.drew _=X at *;refine YHa 0 (some 21) rfl hS ?_;refine YHd 2 (some 23) (.agg x.cells) rfl hS (fun w9 hSw=>by exact exec_load_at 36 _ rfl ⟨wr.heap.size,0,none⟩ rfl (XAt.load ⟨HXZ.out,hSw.o⟩)) ?_;refine wpAnyH_ready (rs:=[1,3]) (by kernel_rfl) (by simp) (AllReadyH.cons (o:=⟨some 22,_,_,_,_,_⟩) rfl (fun K hK=>?_) (AllReadyH.cons (o:=⟨some 24,_,_,_,_,_⟩) rfl (fun K hK=>?_) AllReadyH.nil))
    ·have g0:=J1.out.cell HP32.out;go_simp;refine hK.out _ _ S2.out (fun hS=>?_);clear hK K g0
     try simp only[Act.put,Z2,Z3,Z4]
     refine wpAnyH_ready (rs:=[3]) (by kernel_rfl) (by simp) (AllReadyH.cons (o:=⟨some 24,_,_,_,_,_⟩) rfl (fun K hK=>?_) AllReadyH.nil);go_simp;refine (HCB.out _ (BW0.out.trans (S2.out.b.mono HWL.out))).mono ?_;rintro e X3 ⟨y,rfl,hyx,hyo,hyt,hb4⟩;have J5:=Yy (J1.out.below hb4);have S6:=Yy (S2.out.below HBL.out hb4);have HYX:=Yy hyx;have YO:=Yy (show TLn.K.ok X3 y∧TLn.tag X3 y from⟨hyo,hyt⟩);have YL:=Yy (show (KLn.cs y).length=KLn.n from LnA.len hyo);clear hyx hyo hyt;clear hb4;refine hK.out _ _ S6.out (fun hS=>?_);clear hK K
     try simp only[Act.put,Z2,Z3,Z4]
     refine wpAnyH_ready (rs:=[4]) (by kernel_rfl) (by simp) (AllReadyH.cons (o:=⟨some 25,_,_,_,_,_⟩) rfl (fun K hK=>?_) AllReadyH.nil);refine step_bsliceK (K:=KLn) rfl (.tmp 24) rfl y rfl YL.out Tryz.underlying27 sizeLn zeroLn nLn ?_;have J7:=Yy (J5.out.alloc (.cells (KLn.cs y).toArray 63));have S8:=Yy (S6.out.below HBL.out ((Below.refl _ _).alloc Nl (.cells (KLn.cs y).toArray 63)));have YO9:=Yy (show TLn.K.ok _ _∧TLn.tag _ _ from⟨TLn.K.below YO.out.1 ((Below.refl _ _).alloc Nl (.cells (KLn.cs y).toArray 63)),TLn.below YO.out.2 ((Below.refl _ _).alloc Nl (.cells (KLn.cs y).toArray 63))⟩);refine hK.out _ _ S8.out (fun hS=>?_);clear hK K
     try simp only[Act.put,Z2,Z3,Z4]
     refine wpAnyH_ready (rs:=[5]) (by kernel_rfl) (by simp) (AllReadyH.cons (o:=⟨some 26,_,_,_,_,_⟩) rfl (fun K hK=>?_) AllReadyH.nil);obtain⟨i0,hi,hz0,hz1,hz2⟩:=info_parts infoLn;refine step_append_K (K:=KLn) (o:=⟨some 26,_,_,_,_,_⟩) rfl _ _ 27 rfl (bl+1) 63 i0 _ 56 Tryz.underlying27 hi hz0 hz1 hz2 (by decide) (by decide) v ls y rfl J7.out.own HLE.out YL.out rfl J7.out.le ?_;intro v3 X3 ho3 hg3;obtain⟨g13,cap13,rfl⟩:=ownsRow_succ ho3;have M10:=Yy (J7.out.grown YO9.out ho3 hg3 (by decide));have S12:=Yy (J7.out.fr S8.out (by decide) hg3);have J11:=Yy (M10.out.store (by decide) HP32.out);have S13:=Yy (M10.out.fr (p:=32) S12.out HNE.out);clear ho3 hg3;refine hK.out _ _ S12.out (fun hS=>?_);clear hK K
     try simp only[Act.put,Z2,Z3,Z4]
     refine YHa 6 (some 27) rfl hS ?_;refine wpAnyH_ready (rs:=[7]) (by kernel_rfl) (by simp) (AllReadyH.cons (o:=⟨none,_,_,_,_,_⟩) rfl (fun K hK=>?_) AllReadyH.nil);have g0:=M10.out.cell HP32.out;have gf:=M10.out.fz 32;go_simp;refine hK.out _ _ S13.out (fun hS=>?_);clear hK K g0 gf
     try simp only[Act.put,Z2,Z3,Z4]
     refine wpAnyH_done (by kernel_rfl) ?_ _;have JE:=J11;have SE:=S13;exact Tta27
    ·go_simp;refine (HCB.out _ (BW0.out.trans (S2.out.b.mono HWL.out))).mono ?_;rintro e X14 ⟨y,rfl,hyx,hyo,hyt,hb15⟩;have J16:=Yy (J1.out.below hb15);have S17:=Yy (S2.out.below HBL.out hb15);have HYX:=Yy hyx;have YO:=Yy (show TLn.K.ok X14 y∧TLn.tag X14 y from⟨hyo,hyt⟩);have YL:=Yy (show (KLn.cs y).length=KLn.n from LnA.len hyo);clear hyx hyo hyt;clear hb15;refine hK.out _ _ S17.out (fun hS=>?_);clear hK K
     try simp only[Act.put,Z2,Z3,Z4]
     refine wpAnyH_ready (rs:=[1,4]) (by kernel_rfl) (by simp) (AllReadyH.cons (o:=⟨some 22,_,_,_,_,_⟩) rfl (fun K hK=>?_) (AllReadyH.cons (o:=⟨some 25,_,_,_,_,_⟩) rfl (fun K hK=>?_) AllReadyH.nil))
     ·have g0:=J16.out.cell HP32.out;go_simp;refine hK.out _ _ S17.out (fun hS=>?_);clear hK K g0
      try simp only[Act.put,Z2,Z3,Z4]
      refine wpAnyH_ready (rs:=[4]) (by kernel_rfl) (by simp) (AllReadyH.cons (o:=⟨some 25,_,_,_,_,_⟩) rfl (fun K hK=>?_) AllReadyH.nil);refine step_bsliceK (K:=KLn) rfl (.tmp 24) rfl y rfl YL.out Tryz.underlying27 sizeLn zeroLn nLn ?_;have J18:=Yy (J16.out.alloc (.cells (KLn.cs y).toArray 63));have S19:=Yy (S17.out.below HBL.out ((Below.refl _ _).alloc Nl (.cells (KLn.cs y).toArray 63)));have YO20:=Yy (show TLn.K.ok _ _∧TLn.tag _ _ from⟨TLn.K.below YO.out.1 ((Below.refl _ _).alloc Nl (.cells (KLn.cs y).toArray 63)),TLn.below YO.out.2 ((Below.refl _ _).alloc Nl (.cells (KLn.cs y).toArray 63))⟩);refine hK.out _ _ S19.out (fun hS=>?_);clear hK K
      try simp only[Act.put,Z2,Z3,Z4]
      refine wpAnyH_ready (rs:=[5]) (by kernel_rfl) (by simp) (AllReadyH.cons (o:=⟨some 26,_,_,_,_,_⟩) rfl (fun K hK=>?_) AllReadyH.nil);obtain⟨i0,hi,hz0,hz1,hz2⟩:=info_parts infoLn;refine step_append_K (K:=KLn) (o:=⟨some 26,_,_,_,_,_⟩) rfl _ _ 27 rfl (bl+1) 63 i0 _ 56 Tryz.underlying27 hi hz0 hz1 hz2 (by decide) (by decide) v ls y rfl J18.out.own HLE.out YL.out rfl J18.out.le ?_;intro v3 X3 ho3 hg3;obtain⟨g13,cap13,rfl⟩:=ownsRow_succ ho3;have M21:=Yy (J18.out.grown YO20.out ho3 hg3 (by decide));have S23:=Yy (J18.out.fr S19.out (by decide) hg3);have J22:=Yy (M21.out.store (by decide) HP32.out);have S24:=Yy (M21.out.fr (p:=32) S23.out HNE.out);clear ho3 hg3;refine hK.out _ _ S23.out (fun hS=>?_);clear hK K
      try simp only[Act.put,Z2,Z3,Z4]
      refine YHa 6 (some 27) rfl hS ?_;refine wpAnyH_ready (rs:=[7]) (by kernel_rfl) (by simp) (AllReadyH.cons (o:=⟨none,_,_,_,_,_⟩) rfl (fun K hK=>?_) AllReadyH.nil);have g0:=M21.out.cell HP32.out;have gf:=M21.out.fz 32;go_simp;refine hK.out _ _ S24.out (fun hS=>?_);clear hK K g0 gf
      try simp only[Act.put,Z2,Z3,Z4]
      refine wpAnyH_done (by kernel_rfl) ?_ _;have JE:=J22;have SE:=S24;exact Tta27
     ·refine step_bsliceK (K:=KLn) rfl (.tmp 24) rfl y rfl YL.out Tryz.underlying27 sizeLn zeroLn nLn ?_;have J25:=Yy (J16.out.alloc (.cells (KLn.cs y).toArray 63));have S26:=Yy (S17.out.below HBL.out ((Below.refl _ _).alloc Nl (.cells (KLn.cs y).toArray 63)));have YO27:=Yy (show TLn.K.ok _ _∧TLn.tag _ _ from⟨TLn.K.below YO.out.1 ((Below.refl _ _).alloc Nl (.cells (KLn.cs y).toArray 63)),TLn.below YO.out.2 ((Below.refl _ _).alloc Nl (.cells (KLn.cs y).toArray 63))⟩);refine hK.out _ _ S26.out (fun hS=>?_);clear hK K
      try simp only[Act.put,Z2,Z3,Z4]
      refine wpAnyH_ready (rs:=[1]) (by kernel_rfl) (by simp) (AllReadyH.cons (o:=⟨some 22,_,_,_,_,_⟩) rfl (fun K hK=>?_) AllReadyH.nil);have g0:=J25.out.cell HP32.out;go_simp;refine hK.out _ _ S26.out (fun hS=>?_);clear hK K g0
      try simp only[Act.put,Z2,Z3,Z4]
      refine wpAnyH_ready (rs:=[5]) (by kernel_rfl) (by simp) (AllReadyH.cons (o:=⟨some 26,_,_,_,_,_⟩) rfl (fun K hK=>?_) AllReadyH.nil);obtain⟨i0,hi,hz0,hz1,hz2⟩:=info_parts infoLn;refine step_append_K (K:=KLn) (o:=⟨some 26,_,_,_,_,_⟩) rfl _ _ 27 rfl (bl+1) 63 i0 _ 56 Tryz.underlying27 hi hz0 hz1 hz2 (by decide) (by decide) v ls y rfl J25.out.own HLE.out YL.out rfl J25.out.le ?_;intro v3 X3 ho3 hg3;obtain⟨g13,cap13,rfl⟩:=ownsRow_succ ho3;have M28:=Yy (J25.out.grown YO27.out ho3 hg3 (by decide));have S30:=Yy (J25.out.fr S26.out (by decide) hg3);have J29:=Yy (M28.out.store (by decide) HP32.out);have S31:=Yy (M28.out.fr (p:=32) S30.out HNE.out);clear ho3 hg3;refine hK.out _ _ S30.out (fun hS=>?_);clear hK K
      try simp only[Act.put,Z2,Z3,Z4]
      refine YHa 6 (some 27) rfl hS ?_;refine wpAnyH_ready (rs:=[7]) (by kernel_rfl) (by simp) (AllReadyH.cons (o:=⟨none,_,_,_,_,_⟩) rfl (fun K hK=>?_) AllReadyH.nil);have g0:=M28.out.cell HP32.out;have gf:=M28.out.fz 32;go_simp;refine hK.out _ _ S31.out (fun hS=>?_);clear hK K g0 gf
      try simp only[Act.put,Z2,Z3,Z4]
      refine wpAnyH_done (by kernel_rfl) ?_ _;have JE:=J29;have SE:=S31;exact Tta27
   ·obtain rfl:k=n:=by omega
    have t1:¬ (k:Int)<(k:Int):=by omega
    obtain⟨A4,c4,rfl⟩:=own_slice HJ.out.own;have HE:=Yy (HJ.out.mn ⟨HDL.out,HDB.out⟩);have LE:=Yy (load_mn HE.out.2.1 HE.out.1);rw[show MnA.v ⟨D,A4,c4,ls⟩=.agg (MnA.cs ⟨D,A4,c4,ls⟩).toArray from rfl]at LE;have NB:=Yy (M4.out.below hb (show w.heap.size+1<bl by have:=HS2.out;omega));have SZ2:=Yy (mn_size HE.out.1);have SQ2:=Yy (show mnA0.cs.toArray.size=(MnA.cs ⟨D,A4,c4,ls⟩).toArray.size by rw[mnA0_size,List.size_toArray];exact (MnA.len HE.out.1).symm);have SO2:=Yy (mn_ones ⟨D,A4,c4,ls⟩);have GS:=grownBy_setRow wr (w.heap.size+1) (MnA.cs ⟨D,A4,c4,ls⟩).toArray;have KX:=Yy (HE.out.2.2 _ _ NB.out _ GS);have XB:=Yy (show MnAt (wr.setRow (w.heap.size+1) (MnA.cs ⟨D,A4,c4,ls⟩).toArray) (w.heap.size+1) ⟨D,A4,c4,ls⟩ from setRow_heap _ _ _ _ _ _ NB.out);have BX:=Yy (below_setRow BWR.out (show w.heap.size≤w.heap.size+1 by omega) (MnA.cs ⟨D,A4,c4,ls⟩).toArray);have HFX:=Yy (show MnA.m ⟨D,A4,c4,ls⟩=mof SH.sum D rs by
     have h:=HMP.out;rw[List.take_of_length_le (by rw[HRL.out];exact Nat.le_refl _)]at h;unfold MnA.m mof;dsimp only;rw[h])
    clear hb GS;unfold MnAt at NB;go_wp2_with (first | ((with_reducible refine YyL 29 (.tmp 4) ⟨bl,0,none⟩ LE.out ?_ ?_ ?_);rfl;rfl) | ((with_reducible refine wpList_store_row (o:=⟨none,.store 29 (.tmp 2) (.tmp 29),_,_,_,_⟩) ?_ 29 (.tmp 2) (.tmp 29) ?_ (w.heap.size+1) (MnA.cs ⟨D,A4,c4,ls⟩).toArray ?_ ?_ 29 _ NB.out SZ2.out SQ2.out SO2.out ?_);rfl;rfl;rfl;rfl));refine bodyPost_ret (v:=.tuple #[MnA.v ⟨D,A4,c4,ls⟩,.bool true]) ?_ rfl ?_
    ·exact res_mn2 Tryz.results21 rfl XB.out KX.out
    ·rw[HF.out];exact⟨_,rfl,HFX.out,KX.out,BX.out⟩
end
section
open Go.RowKit WM
theorem may_X12:bmay [recX]=true:=rfl
end
section
open Go.RowKit WM
def fldX:Fld:=⟨2,⟨1,1,⟨#[120]⟩⟩⟩
theorem aparts_none {base:List Int}:aparts [recX] (mof SH.sum base [])=[recX]:=by
 unfold aparts;rw[show (bmay [recX] && mmay (mof SH.sum base []))=true from rfl,if_pos rfl];exact parts_all (fun x hx=>by rw[List.mem_singleton.1 hx];rfl)
theorem aparts_own {base:List Int} {Y:List Rc} (h:bmay Y=true):aparts Y (mof SH.sum base Y)=[]:=by
 unfold aparts
 split
 ·exact parts_own h
 ·rfl
theorem addE_X:addE [] recX=(0,[recX]):=by
 have hok:addOk [] recX:=⟨rfl,rfl,by unfold recX;simp,.inr rfl⟩;have hx:addY (addX [] recX) recX=(0,[recX]):=by
  unfold addX;rw[if_pos (show recX.n=0∧recX.r=0 from⟨rfl,rfl⟩)];unfold addY;rw[if_pos ⟨rfl,by unfold recX;simp⟩]
  rfl
 unfold addE;rw[if_pos hok,hx,if_pos rfl]
theorem exc_X0 {base:List Int}:exc fldX.c (mof SH.sum base []) z7 2=true:=by
 have h:=exc_mof base [] z7 fldX.c 2;rw[show ((2:Nat):Int)=2 from rfl]at h;rw[h]
 rfl
theorem exc_X1 {base:List Int}:exc fldX.c (mof SH.sum base [recX]) z7 2=false:=by
 have h:=exc_mof base [recX] z7 fldX.c 2;rw[show ((2:Nat):Int)=2 from rfl]at h;rw[h,bat_X];unfold excO;dsimp only;rw[show recX.at 2=some fldX.c from rfl];dsimp only;rw[if_pos ⟨rfl,rfl⟩,il_irr,Bool.and_false]
structure OneP (w:World) (lb lo fb fo:Nat) (x:RcA) (f:Fld):Prop where
 r:RecAt w lb lo x
 lt:lb<w.heap.size
 fl:KFl.at w fb fo f
 flt:fb<w.heap.size
 v:RvAt w x
theorem OneP.below {w w':World} {B lb lo fb fo:Nat} {x:RcA} {f:Fld} (h:OneP w lb lo fb fo x f) (hb:Below B w w') (hB:w.heap.size≤B):OneP w' lb lo fb fo x f:=
 have hb':=hb.mono hB
 ⟨h.r.same (hb'.block _ h.lt),Nat.lt_of_lt_of_le h.lt hb'.size,Kind.at_same h.fl (hb'.block _ h.flt),Nat.lt_of_lt_of_le h.flt hb'.size,h.v.below hb hB⟩
theorem one_part {w:World} {l:Bk} {R:Rc} {f:Fld} (hl:l.rs=[R]) (hk:BkAt w l) (hf:R.fs=[f]):∃ lb lo lc fb fo fc,l=⟨[⟨R,some ⟨fb,fo,none⟩,fc⟩],some ⟨lb,lo,none⟩,lc⟩∧OneP w lb lo fb fo ⟨R,some ⟨fb,fo,none⟩,fc⟩ f:=by
 obtain⟨xs,A,c⟩:=l;unfold Bk.rs at hl;dsimp only at hl
 match xs,hl with
 | [x],hl=>
  have hx:x.R=R:=by simpa using hl
  obtain⟨xR,xA,xc⟩:=x;dsimp only at hx;subst hx;obtain⟨h1,h2,h3,h4,h5⟩:=hk;obtain⟨b,off,hA,hlt,hc⟩:=h4 (by simp);have hv:=h5 _ (List.mem_singleton.2 rfl);obtain⟨k1,k2,k3,k4⟩:=hv.2;have hfl:xR.fs.length=1:=by rw[hf];rfl
  obtain⟨fb,fo,hfA,hfb,hfc⟩:=k4 (by show 0<xR.fs.length;omega);dsimp only at hA hfA;subst hA hfA;have hr:=hc 0 (by simp);rw[Nat.zero_mul,Nat.add_zero]at hr;have hq:=(FsAt.kfl hv.2).2.2.2.1 (by show 0<xR.fs.length;omega);obtain⟨b2,o2,e2,hb2,hc2⟩:=hq;cases e2;have hr2:=hc2 0 (by show 0<xR.fs.length;omega);rw[Nat.zero_mul,Nat.add_zero,show xR.fs.getD 0 KFl.d=f by rw[hf];rfl]at hr2;exact⟨b,off,c,fb,fo,xc,rfl,hr,hlt,hr2,hfb,hv⟩
end
section
open Go.RowKit Go.Shelf WM
def SeqG {α:Type} (n:Nat) (P:Program) (f:Nat) (lb:Array Value) (enc:α→Array Value) (Kp:World→World→Prop) (G:α→World→Prop) (S:List α→Prop) (N:Nat) (w:World):Prop:=
 ∀ (l:Nat) (J:List α→World→Prop) (V:World),Below w.heap.size w V→AbidesFrom V.heap.size J →
  (∀ pre x X,J pre X→G x X→pre.length<N→YieldAt Fence.wide (n - 1) P l (enc x) X fun e Y=>e=.returned (.bool true)∧J (pre++[x]) Y∧Kp X Y) →
  J [] V→CallsIn Fence.wide n P f (#[.func (.yield l) #[] #[]]++lb) V fun e Y=>(∃ v,e=.returned v)∧∃ xs,S xs∧J xs Y
def goesOn (B:Nat) (X:World) (T:World→Prop):Exit→Act→World→Prop
 | .normal,_,Y=>KeepsFrom B X Y∧T Y
 | _,_,_=>False
section
variable {α:Type} {P:Program} {n:Nat}
structure LoopAt (D:Nat) (r:Loop) (X:World):Prop where
 loop:X.heap[D+1]?=some (.loop r)
 defs:X.heap[D]?=some (.deferred (some []))
theorem LoopAt.keeps {D:Nat} {r:Loop} {X Y:World} (h:LoopAt D r X) (k:KeepsFrom D X Y):LoopAt D r Y:=
 ⟨k.same _ _ (Nat.le_succ _) h.loop rfl,k.same _ _ Nl h.defs rfl⟩
theorem LoopAt.turn {D:Nat} {r:Loop} {X:World} (h:LoopAt D r X) (r':Loop):LoopAt D r' (X.putObj (D+1) (.loop r')):=
 ⟨World.putObj_heap_same (Array.getElem?_eq_some_iff.1 h.loop).1,(World.putObj_heap_other (by omega)).trans h.defs⟩
theorem wpIn_range_G {g:Operand} {ps:Array Tmp} {assign body:Code} {Q:Exit→Act→World→Prop} {a:Act} {w:World} (h1:1≤n) {f:Nat} {lb:Array Value} (hg:a.eval g=.func (.func f) #[] lb) (he:Enters P f)
  {enc:α→Array Value} {Kp:World→World→Prop} {G:α→World→Prop} {S:List α→Prop} {N:Nat} (hseq:SeqG (n - 1) P f lb enc Kp G S N w) (hps:∀ x,(enc x).size=ps.size)
  (hKt:∀ {X Y Z:World},Kp X Y→Kp Y Z→Kp X Z) (hKb:∀ (X:World) (l:Nat) (o o':Obj),w.heap.size≤l→X.heap[l]?=some o→o.isCells=false→o.isWalk=false→Kp X (X.putObj l o'))
  (I:List α→World→Prop) (hI:OwnFrom w.heap.size I) (h0:I [] w) (A:α→Act→World→Prop) (hA:∀ x a',OwnFrom w.heap.size (fun (_:Unit) X=>A x a' X))
  (hassign:∀ (l:Nat) (pre:List α) (x:α) (X:World),I pre X→G x X →
   assign.wpIn (Fence.wide.inRound l) (n - 1 - 1) P (Exit.then (fun a' Y=>KeepsFrom w.heap.size X Y∧Kp X Y∧I pre Y∧A x a' Y) (fun _ _ _=>False)) { tmps:=(ps.zip (enc x)).foldl (fun t (p,v)=>t.setIfInBounds p v) a.tmps,defers:=[]} X)
  (hbody:∀ (l:Nat) (pre:List α) (x:α) (a':Act) (X:World),w.heap.size≤l→I pre X→A x a' X→pre.length<N →
   body.wpIn (Fence.wide.inRound l) (n - 1 - 1) P (goesOn w.heap.size X (fun Y=>Kp X Y∧I (pre++[x]) Y)) a' X)
  (hdone:∀ (D:Nat) (xs:List α) (X:World),w.heap.size≤D→S xs→I xs X→X.heap[D]?=some (.deferred (some []))→Q .normal { a with defers:={ target:=.collected D,args:=#[]}::a.defers} X):
  (Code.rangeFunc g ps assign body).wpIn Fence.wide n P Q a w:=by
 refine wpIn_rangeFunc fun fn hfn=>?_
 -- the loop's record, ready, busy
 obtain⟨D,hD⟩:∃ D,D=w.heap.size:=⟨_,rfl⟩;obtain⟨r,hr⟩:∃ r:Loop,r = { state:=.ready,pending:=none,fn:=fn,tmps:=a.tmps,params:=ps,assign:=assign,body:=body,defers:=w.heap.size}:=⟨_,rfl⟩;obtain⟨rb,hrb⟩:∃ rb:Loop,rb = { r with state:=.busy}:=⟨_,rfl⟩;have hr1:r.state=.ready:=by rw[hr]
 have hen:=run_enterLoop_outer (P:=P) (w:=w) fn a.tmps ps assign body;rw[← hr]at hen;obtain⟨w1,hw1⟩:∃ w1,w1=(w.alloc (.deferred (some []))).alloc (.loop r):=⟨_,rfl⟩;have hs1:w1.heap.size=D+2:=by rw[hw1,World.size_alloc,World.size_alloc,hD]
 have L1:LoopAt D r w1:=by
  constructor
  ·have:=heap_alloc_new (w.alloc (.deferred (some []))) (.loop r);rw[World.size_alloc,← hD,← hw1]at this;exact this
  ·rw[hw1,hD];exact (Below.heap_alloc _ _ _ (by simp)).trans (heap_alloc_new w _)
 have B1:Below w.heap.size w w1:=by rw[hw1];exact ((Below.refl _ w).alloc Nl _).alloc (by simp) _
 have I1:I [] w1:=by rw[hw1];exact hI.alloc _ (hI.alloc _ h0)
 rw[← hw1,← hD]at hen;rw[← hD]at hI hA hKb hassign hbody hdone;refine⟨D+1,[{ target:=.collected D,args:=#[]}],w1,{ target:=.fn (.func f) lb,args:=#[.func (.yield (D+1)) #[] #[]]},w1,f,#[.func (.yield (D+1)) #[] #[]]++lb,w1,hen,?_,fun _ _=>trivial,?_,fun _=>h1,?_⟩
 ·simp only[resolve,hg];simp[go_sem]
 ·have h9:=he (#[.func (.yield (D+1)) #[] #[]]++lb) w1;simp[invoke,go_sem];exact h9
 refine (hseq (D+1) (fun pre X=>I pre X∧LoopAt D r X) w1 B1 ?_ ?_ ⟨I1,L1⟩).mono ?_
 ·-- what the function itself does leaves the two blocks,and what the caller keeps
  rintro s X Y row ⟨h2,h3⟩ hgr hrow;have hrow2:∀ k,row=some k→∃ o:Obj,X.heap[k]?=some o∧o.isWalk=true:=fun k e=>(hrow k e).2;refine⟨hI s X Y row h2 hgr fun k e=>?_,(grownBy_keeps hgr hrow2 h3.loop rfl).trans h3.loop,(grownBy_keeps hgr hrow2 h3.defs rfl).trans h3.defs⟩;obtain⟨hb,o,ho,hw⟩:=hrow k e;exact⟨by omega,o,ho,Obj.not_cells_of_walk hw⟩
 ·-- a round
  rintro pre x X ⟨h2,h3⟩ hG hlen;have hy:=run_yield (P:=P) (args:=enc x) h3.loop (by rw[hr];exact hps x);refine⟨r.fn,_,r.assign,r.body,hy,roundIn_of_wpIn (by trivial) ?_⟩;rw[show r.assign=assign by rw[hr],show r.body=body by rw[hr],show r.params=ps by rw[hr],show r.tmps=a.tmps by rw[hr]];refine wpIn_mono (hassign _ pre x X h2 hG) ?_;intro e a' Y hp;cases e with
  | normal=>
   obtain⟨hk,hkp,hi,ha⟩:=hp;have h4:=h3.keeps hk;have L5:=h4.turn rb;have hlb:=Array.getElem?_eq_some_iff.1 h4.loop;have hbr:=run_beginRound (P:=P) h4.loop hr1;rw[← hrb]at hbr;refine⟨_,hbr,wpIn_mono (hbody (D+1) pre x a' _ (by omega) (hI.putObj _ hi (by omega) h4.loop rfl) ((hA x a').putObj (s:=()) _ ha (by omega) h4.loop rfl) hlen) ?_⟩;intro e2 a2 Z hp2;cases e2 with
   | normal=>
    obtain⟨hk2,hkp2,hi2⟩:=hp2;have L6:=L5.keeps hk2;have her:=run_endRound (P:=P) none L6.loop;have hrr:({ rb with state:=if (none:Option Code).isNone then LoopState.ready else LoopState.done,pending:=none}:Loop)=r:=by rw[hrb,hr];rfl
    rw[hrr]at her;exact⟨_,_,her,rfl,⟨hI.putObj _ hi2 (by omega) L6.loop rfl,L6.turn r⟩,hKt hkp (hKt (hKb _ _ _ _ (by omega) h4.loop rfl rfl) (hKt hkp2 (hKb _ _ _ _ (by omega) L6.loop rfl rfl)))⟩
   | ret=>exact hp2.elim
   | exit id=>exact hp2.elim
   | goto t=>exact hp2.elim
   | panic ch=>exact hp2.elim
   | outgrown=>exact hp2.elim
  | ret=>exact hp.elim
  | exit id=>exact hp.elim
  | goto t=>exact hp.elim
  | panic ch=>exact hp.elim
  | outgrown=>exact hp.elim
 ·-- all have come
  rintro e Y ⟨⟨v,rfl⟩,xs,hS,hi,hL⟩;have hel:=run_endLoop (P:=P) hL.loop (by rw[hr1];decide);rw[show r.pending=none by rw[hr]]at hel;exact⟨none,_,hel,hdone D xs _ Nl hS (hI.putObj _ hi (by omega) hL.loop rfl) ((World.putObj_heap_other (by omega)).trans hL.defs)⟩
end
end
end Go.Proofs.YtnlhkpmgbpfjmaaGreatDoor
