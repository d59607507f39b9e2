import Derived.Test.YtnlhkpmgbpfjmaaGreatDoorQd3
import Derived.Stop.BytesEq
import Derived.Lib.ConvBytes
import Derived.RangeFuncBox
import Derived.Maps.OwnSet
import Derived.Maps.Views
import Derived.DeepKeys4
/- What functions answer, part 4. -/
namespace Go.Proofs.YtnlhkpmgbpfjmaaGreatDoor
set_option linter.unusedVariables false
set_option linter.unusedSimpArgs false
set_option maxHeartbeats 16000000
set_option maxRecDepth 100000
section
section
open Go.RowKit WM
def DSumPost (zs:List Int) (w:World) (e:Ending) (w':World):Prop:=e=.returned (.agg (bvals (SH.sum zs)))∧Below w.heap.size w w'
theorem dsum_any {B:Nat} (A:Option Addr) (len cap:Nat) (zs:List Int) (w:World) (hlaid:Laid w) (h:Byt w B A zs) (hl:zs.length=len) (hc:len≤cap) (hcm:cap≤maxLen) (hn:len≤1152921504606846975) (hnil:A=none→cap=0) (hb:AllBytes zs) (hB:B≤w.heap.size):
  Calls Tryz.prog 79 #[.slice A len cap] w (DSumPost zs w):=by
 obtain⟨wh,hwh⟩:∃ wh,wh=len - len % 64:=⟨_,rfl⟩;have ew:(len:Int) - (len:Int) % 64=(wh:Int):=by omega
 have hz8:=zeroW8;have hz:=zeroD;have hbA:Below w.heap.size w (w.alloc (.cells (bvals (List.replicate 32 0)) 26)):=(Below.refl _ _).alloc Nl _;have hrA:=BRow.new w 26 (List.replicate 32 0);have hszA:(w.alloc (.cells (bvals (List.replicate 32 0)) 26)).heap.size=w.heap.size+1:=World.size_alloc _ _;obtain⟨W0,hW0⟩:∃ W0,w.alloc (.cells (bvals (List.replicate 32 0)) 26)=W0:=⟨_,rfl⟩;rw[hW0]at hbA hrA hszA;have lx:∀ X,Below W0.heap.size W0 X→Below w.heap.size w X:=fun X hX=>hbA.trans (hX.mono hbA.size);have C1:=Yy (fun (X:World) (hX:Below W0.heap.size W0 X)=>first_any X (hlaid.below (lx X hX) Nl));have C2:=Yy (fun (X:World) (hX:Below W0.heap.size W0 X)=>blocks_any SH.H0 SH.H0_ok A wh cap (zs.take wh) X (hlaid.below (lx X hX) Nl) ((h.take wh).below ((lx X hX).mono hB)) (by rw[List.length_take];omega) (by omega) (by omega) hcm (all_take hb wh) (Nat.le_trans hB (lx X hX).size));have S1:=Yy (fun w9=>sl_h A len cap wh (by omega) (wh:Int) rfl w9);have S2:=Yy (fun w9=>sl_l A len cap wh (by omega) (wh:Int) rfl w9);have hA':(if cap=wh then A else A.map (·.add wh))=none→cap - wh=0:=by
  by_cases e:cap=wh
  ·intro _;omega
  ·rw[if_neg e];cases A with
   | none=>intro _;have:=hnil rfl;omega
   | some a=>intro e';cases e'
 have C3:=Yy (fun (X:World) (hX:Below W0.heap.size W0 X)=>ending_any (if cap=wh then A else A.map (·.add wh)) (len - wh) (cap - wh) len (zs.drop wh) X ((h.drop (k:=wh) (cap:=cap) (by omega)).below ((lx X hX).mono hB)) (by rw[List.length_drop,hl]) hn (by omega) hA' (Nat.le_trans hB (lx X hX).size));generalize (if cap=wh then A else A.map (·.add wh))=A' at *;have hmb:AllBytes (zs.drop wh++SH.tail (len - wh) len):=all_append (all_drop hb wh) (tail_bytes _ _);have hml:(zs.drop wh++SH.tail (len - wh) len).length % 64=0:=by
  rw[List.length_append,List.length_drop,SH.tail_len,hl];unfold SH.gap;omega
 have C4:=Yy (fun (X:World) (hX:Below W0.heap.size W0 X) (A4:Option Addr) (n4 c4:Nat) (hy:Byt X X.heap.size A4 (zs.drop wh++SH.tail (len - wh) len)) (h1:(zs.drop wh++SH.tail (len - wh) len).length=n4) (h2:n4≤c4) (h3:c4≤maxLen)=>blocks_any (SH.all SH.H0 (zs.take wh)) (SH.all_ok _ SH.H0_ok) A4 n4 c4 _ X (hlaid.below (lx X hX) Nl) hy h1 (by rw[← h1];exact hml) h2 h3 hmb Nl);have C5:=Yy (fun (X:World)=>dig_any (SH.all (SH.all SH.H0 (zs.take wh)) (zs.drop wh++SH.tail (len - wh) len)) (SH.all_ok _ (SH.all_ok _ SH.H0_ok)) X);have HE:SH.dig (SH.all (SH.all SH.H0 (zs.take wh)) (zs.drop wh++SH.tail (len - wh) len))=SH.sum zs:=by
  rw[SH.sum_parts,hl,← hwh,show len - wh=len % 64 by omega]
 unfold FirstPost at C1;unfold BlocksPost at C2 C4;unfold DigPost at C5;rw[HE]at C5;have HP:Hid (∀ e w',e=.returned (.agg (bvals (SH.sum zs)))→Below w.heap.size w w'→DSumPost zs w e w'):=Yy (fun _ _ h1 h2=>⟨h1,h2⟩);generalize SH.all (SH.all SH.H0 (zs.take wh)) (zs.drop wh++SH.tail (len - wh) len)=s2 at *;generalize SH.all SH.H0 (zs.take wh)=s1 at *;have I1:=Yy (size8 s1);have I2:=Yy (size8 s2);have Z1:=Yy (show (vals (List.replicate 8 0)).size=(vals s1.list).size by rw[vals_size,vals_size,list_len,List.length_replicate]);have Z2:=Yy (show (vals s1.list).size=(vals s2.list).size by rw[vals_size,vals_size,list_len,list_len]);have O1:=Yy (vals_one s1.list);have O2:=Yy (vals_one s2.list);have RN:=Yy (fun X=>heap_alloc_new X (.cells (vals (List.replicate 8 0)) 130));have RBx:∀ (X X':World) (g:Nat) (V:Array Value),X.heap[g]?=some (.cells V 130 (0,0))→Below X.heap.size X X'→X'.heap[g]?=some (.cells V 130 (0,0)):=fun X X' g V hX hb=>by
  have hlt:g<X.heap.size:=by
   rcases Nat.lt_or_ge g X.heap.size with h3 | h3
   ·exact h3
   ·rw[Array.getElem?_eq_none h3]at hX;cases hX
  rw[hb.block g hlt];exact hX
 generalize vals (List.replicate 8 0)=Z8 at *;generalize vals s1.list=V1 at *;generalize hV2:vals s2.list=V2 at *;have RB:=Yy (fun (X X':World) (g:Nat)=>RBx X X' g Z8);have RV:=Yy (fun (X X':World)=>RBx X X');have PUT:=Yy (fun (X:World) (g:Nat) (hr:X.heap[g]?=some (.cells Z8 130 (0,0))) (hg:W0.heap.size≤g) (hX:Below W0.heap.size W0 X)=>(⟨setRow_heap X g _ V1 _ _ hr,below_setRow hX hg V1⟩:(X.setRow g V1).heap[g]?=some (.cells V1 130 (0,0))∧Below W0.heap.size W0 (X.setRow g V1)));have PUT2:=Yy (fun (X:World) (g:Nat) (hr:X.heap[g]?=some (.cells V1 130 (0,0))) (hg:W0.heap.size≤g) (hX:Below W0.heap.size W0 X)=>(⟨setRow_heap X g _ V2 _ _ hr,below_setRow hX hg V2⟩:(X.setRow g V2).heap[g]?=some (.cells V2 130 (0,0))∧Below W0.heap.size W0 (X.setRow g V2)));have hIs:=Yy (show (Tryz.prog.info? 26).map (·.size)=some (bvals (SH.sum zs)).size by rw[sizeD,bvals_size,SH.sum_len]);have hZs:=Yy (show (bvals (List.replicate 32 0)).size=(bvals (SH.sum zs)).size by rw[bvals_size,bvals_size,SH.sum_len,List.length_replicate]);have hOs:=Yy (bvals_one (SH.sum zs));have HRA:=Yy (fun (X:World) (hX:Below W0.heap.size W0 X)=>hrA.below hX (by rw[hszA];omega));have FIN:=Yy (fun (X:World) (hX:Below W0.heap.size W0 X)=>(⟨(hrA.below hX (by rw[hszA];omega)).put (SH.sum zs),below_setRow (lx X hX) Nl (bvals (SH.sum zs))⟩:BRow (X.setRow w.heap.size (bvals (SH.sum zs))) w.heap.size 26 (SH.sum zs)∧Below w.heap.size w (X.setRow w.heap.size (bvals (SH.sum zs)))));unfold BRow at HRA FIN
 generalize bvals (List.replicate 32 0)=Z32 at *;generalize bvals (SH.sum zs)=VS at *;have HW0:=Yy hW0;clear hW0 hbA hrA hszA lx hlaid h hnil hb hA' hmb hml HE hwh;go_enter Tryz.func79,Tryz.ntmps79;go_wp2_with fail;rw[HW0.out];refine wp_region_held_drew (S:=fun w'=>Below W0.heap.size W0 w') (by kernel_rfl) (Below.refl _ _).drew (fun hS=>?_);refine YHd 1 (some 12) _ rfl hS (fun w9 hSw=>by (try dsimp only at hSw);go_simp;try with_reducible rfl) ?_;refine YHd 2 (some 13) _ rfl hS (fun w9 hSw=>by (try dsimp only at hSw);go_simp;try with_reducible rfl) ?_;refine YHd 3 (some 14) _ rfl hS (fun w9 hSw=>by (try dsimp only at hSw);have s9:=S1.out w9;go_simp;try with_reducible rfl) ?_;have hcx:Below W0.heap.size W0 W0.drew:=(Below.refl _ _).drew;generalize W0.drew=x at *;refine wpAnyH_ready (rs:=[0,5]) (by kernel_rfl) (by simp) (AllReadyH.cons (o:=⟨some 11,_,_,_,_,_⟩) rfl (fun K hK=>?_) (AllReadyH.cons (o:=⟨some 4,_,_,_,_,_⟩) rfl (fun K hK=>?_) AllReadyH.nil));go_simp;refine (C1.out x hcx).mono ?_;rintro e x1 ⟨rfl,hbx1⟩;have hcx1:=hcx.trans (hbx1.mono hcx.size);refine hK.out _ _ hcx1 (fun hS=>?_);clear hK K;refine wpAnyH_ready (rs:=[4,5]) (by kernel_rfl) (by simp) (AllReadyH.cons (o:=⟨some 15,_,_,_,_,_⟩) rfl (fun K hK=>?_) (AllReadyH.cons (o:=⟨some 4,_,_,_,_,_⟩) rfl (fun K hK=>?_) AllReadyH.nil));go_simp;refine (C2.out x1 hcx1).mono ?_;rintro e x2 ⟨rfl,hbx2⟩;have hcx2:=hcx1.trans (hbx2.mono hcx1.size);refine hK.out _ _ hcx2 (fun hS=>?_);clear hK K
 refine wpAnyH_ready (rs:=[5]) (by kernel_rfl) (by simp) (AllReadyH.cons (o:=⟨some 4,_,_,_,_,_⟩) rfl (fun K hK=>?_) AllReadyH.nil);go_simp;have hbx3:Below x2.heap.size x2 (x2.alloc (.cells Z8 130)):=(Below.refl _ _).alloc Nl _;have hcx3:=hcx2.trans (hbx3.mono hcx2.size);have hrx3:=RN.out x2;have hg:W0.heap.size≤x2.heap.size:=hcx2.size;refine hK.out _ _ hcx3 (fun hS=>?_);clear hK K;generalize x2.alloc (.cells Z8 130)=x3 at *;generalize x2.heap.size=G at hrx3 hg ⊢;refine wpAnyH_ready (rs:=[6]) (by kernel_rfl) (by simp) (AllReadyH.cons (o:=⟨none,_,_,_,_,_⟩) rfl (fun K hK=>?_) AllReadyH.nil);rw[if_pos (by rfl)];refine wp_store_row 130 (.tmp 4) (.tmp 15) rfl G V1 (by rfl) (by rfl) 130 Z8 hrx3 I1.out Z1.out O1.out ?_;have hcY:=below_setRow hcx3 hg V1;refine hK.out _ _ hcY (fun hS=>?_);clear hK K;have HY:=Yy (PUT.out x3 G hrx3 hg hcx3);clear hrx3 hcY;generalize x3.setRow G V1=Y at *;refine wpAnyH_done (by kernel_rfl) ?_ _;simp only[Act.put];rotate_left;go_simp;have hbx2:Below x1.heap.size x1 (x1.alloc (.cells Z8 130)):=(Below.refl _ _).alloc Nl _;have hcx2:=hcx1.trans (hbx2.mono hcx1.size);have hrx2:=RN.out x1;have hg:W0.heap.size≤x1.heap.size:=hcx1.size;refine hK.out _ _ hcx2 (fun hS=>?_);clear hK K;generalize x1.alloc (.cells Z8 130)=x2 at *;generalize x1.heap.size=G at hrx2 hg ⊢;refine wpAnyH_ready (rs:=[4]) (by kernel_rfl) (by simp) (AllReadyH.cons (o:=⟨some 15,_,_,_,_,_⟩) rfl (fun K hK=>?_) AllReadyH.nil);go_simp;refine (C2.out x2 hcx2).mono ?_;rintro e x3 ⟨rfl,hbx3⟩
 have hcx3:=hcx2.trans (hbx3.mono hcx2.size);refine hK.out _ _ hcx3 (fun hS=>?_);clear hK K;have hrx3:=RB.out _ _ _ hrx2 hbx3;refine wpAnyH_ready (rs:=[6]) (by kernel_rfl) (by simp) (AllReadyH.cons (o:=⟨none,_,_,_,_,_⟩) rfl (fun K hK=>?_) AllReadyH.nil);rw[if_pos (by rfl)];refine wp_store_row 130 (.tmp 4) (.tmp 15) rfl G V1 (by rfl) (by rfl) 130 Z8 hrx3 I1.out Z1.out O1.out ?_;have hcY:=below_setRow hcx3 hg V1;refine hK.out _ _ hcY (fun hS=>?_);clear hK K;have HY:=Yy (PUT.out x3 G hrx3 hg hcx3);clear hrx3 hcY;generalize x3.setRow G V1=Y at *;refine wpAnyH_done (by kernel_rfl) ?_ _;simp only[Act.put];rotate_left;go_simp;have hbx1:Below x.heap.size x (x.alloc (.cells Z8 130)):=(Below.refl _ _).alloc Nl _;have hcx1:=hcx.trans (hbx1.mono hcx.size);have hrx1:=RN.out x;have hg:W0.heap.size≤x.heap.size:=hcx.size;refine hK.out _ _ hcx1 (fun hS=>?_);clear hK K;generalize x.alloc (.cells Z8 130)=x1 at *;generalize x.heap.size=G at hrx1 hg ⊢;refine wpAnyH_ready (rs:=[0]) (by kernel_rfl) (by simp) (AllReadyH.cons (o:=⟨some 11,_,_,_,_,_⟩) rfl (fun K hK=>?_) AllReadyH.nil);go_simp;refine (C1.out x1 hcx1).mono ?_;rintro e x2 ⟨rfl,hbx2⟩;have hcx2:=hcx1.trans (hbx2.mono hcx1.size);refine hK.out _ _ hcx2 (fun hS=>?_);clear hK K;have hrx2:=RB.out _ _ _ hrx1 hbx2;refine wpAnyH_ready (rs:=[4]) (by kernel_rfl) (by simp) (AllReadyH.cons (o:=⟨some 15,_,_,_,_,_⟩) rfl (fun K hK=>?_) AllReadyH.nil);go_simp;refine (C2.out x2 hcx2).mono ?_;rintro e x3 ⟨rfl,hbx3⟩
 have hcx3:=hcx2.trans (hbx3.mono hcx2.size);refine hK.out _ _ hcx3 (fun hS=>?_);clear hK K;have hrx3:=RB.out _ _ _ hrx2 hbx3;refine wpAnyH_ready (rs:=[6]) (by kernel_rfl) (by simp) (AllReadyH.cons (o:=⟨none,_,_,_,_,_⟩) rfl (fun K hK=>?_) AllReadyH.nil);rw[if_pos (by rfl)];refine wp_store_row 130 (.tmp 4) (.tmp 15) rfl G V1 (by rfl) (by rfl) 130 Z8 hrx3 I1.out Z1.out O1.out ?_;have hcY:=below_setRow hcx3 hg V1;refine hK.out _ _ hcY (fun hS=>?_);clear hK K;have HY:=Yy (PUT.out x3 G hrx3 hg hcx3);clear hrx3 hcY;generalize x3.setRow G V1=Y at *;refine wpAnyH_done (by kernel_rfl) ?_ _;simp only[Act.put]
 all_goals (
  go_wp2_with fail;obtain⟨hrY,hcY⟩:=HY.out;refine wp_region_held_drew (S:=fun w'=>Below W0.heap.size W0 w') (by kernel_rfl) hcY.drew (fun hS=>?_);refine YHd 1 (some 17) _ rfl hS (fun w9 hSw=>by (try dsimp only at hSw);go_simp;try with_reducible rfl) ?_;refine YHd 2 (some 18) _ rfl hS (fun w9 hSw=>by (try dsimp only at hSw);go_simp;try with_reducible rfl) ?_;refine YHd 3 (some 19) _ rfl hS (fun w9 hSw=>by (try dsimp only at hSw);have s9:=S2.out w9;go_simp;try with_reducible rfl) ?_;refine YHd 4 (some 20) _ rfl hS (fun w9 hSw=>by (try dsimp only at hSw);go_simp;try with_reducible rfl) ?_;refine YHd 5 (some 21) _ rfl hS (fun w9 hSw=>by (try dsimp only at hSw);go_simp;try with_reducible rfl) ?_;have hcz:=hcY.drew;have hrz:Y.drew.heap[G]?=some (.cells V1 130 (0,0)):=hrY;generalize Y.drew=z at *;refine wpAnyH_ready (rs:=[0,6]) (by kernel_rfl) (by simp) (AllReadyH.cons (o:=⟨some 16,_,_,_,_,_⟩) rfl (fun K hK=>?_) (AllReadyH.cons (o:=⟨some 22,_,_,_,_,_⟩) rfl (fun K hK=>?_) AllReadyH.nil));rw[if_pos (by rfl)];refine wp_load_row 130 (.tmp 4) rfl G (by rfl) 130 V1 (0,0) _ hrz Tryz.underlying130 rfl I1.out ?_;refine hK.out _ _ hcz (fun hS=>?_);clear hK K;simp only[Act.put,Z2,Z3,Z4];refine wpAnyH_ready (rs:=[6]) (by kernel_rfl) (by simp) (AllReadyH.cons (o:=⟨some 22,_,_,_,_,_⟩) rfl (fun K hK=>?_) AllReadyH.nil);go_simp;refine (C3.out z hcz).mono ?_;rintro e z1 ⟨A4,n4,c4,rfl,hn4,hnc4,hcm4,hown4,hbz1⟩;have hcz1:=hcz.trans (hbz1.mono hcz.size);have hrz1:=RV.out _ _ _ _ hrz hbz1
  have hy4:=Byt.own hown4;refine hK.out _ _ hcz1 (fun hS=>?_);clear hK K;refine wpAnyH_ready (rs:=[7]) (by kernel_rfl) (by simp) (AllReadyH.cons (o:=⟨some 23,_,_,_,_,_⟩) rfl (fun K hK=>?_) AllReadyH.nil);go_simp;refine (C4.out z1 hcz1 A4 n4 c4 hy4 hn4 hnc4 hcm4).mono ?_;rintro e x9 ⟨rfl,hbx9⟩;have hcx9:=hcz1.trans (hbx9.mono hcz1.size);have hrx9:=RV.out _ _ _ _ hrz1 hbx9;refine hK.out _ _ hcx9 (fun hS=>?_);clear hK K;refine wpAnyH_ready (rs:=[8]) (by kernel_rfl) (by simp) (AllReadyH.cons (o:=⟨none,_,_,_,_,_⟩) rfl (fun K hK=>?_) AllReadyH.nil);rw[if_pos (by rfl)];refine wp_store_row 130 (.tmp 4) (.tmp 23) rfl G V2 (by rfl) (by rfl) 130 V1 hrx9 I2.out Z2.out O2.out ?_;have hcY:=below_setRow hcx9 hg V2;refine hK.out _ _ hcY (fun hS=>?_);clear hK K;have HY2:=Yy (PUT2.out x9 G hrx9 hg hcx9);clear hrx9 hcY;generalize x9.setRow G V2=Y2 at *;refine wpAnyH_done (by kernel_rfl) ?_ _;simp only[Act.put];rotate_left;go_simp;refine (C3.out z hcz).mono ?_;rintro e z1 ⟨A4,n4,c4,rfl,hn4,hnc4,hcm4,hown4,hbz1⟩;have hcz1:=hcz.trans (hbz1.mono hcz.size);have hrz1:=RV.out _ _ _ _ hrz hbz1;have hy4:=Byt.own hown4;refine hK.out _ _ hcz1 (fun hS=>?_);clear hK K;refine wpAnyH_ready (rs:=[0]) (by kernel_rfl) (by simp) (AllReadyH.cons (o:=⟨some 16,_,_,_,_,_⟩) rfl (fun K hK=>?_) AllReadyH.nil);rw[if_pos (by rfl)];refine wp_load_row 130 (.tmp 4) rfl G (by rfl) 130 V1 (0,0) _ hrz1 Tryz.underlying130 rfl I1.out ?_;refine hK.out _ _ hcz1 (fun hS=>?_);clear hK K;simp only[Act.put,Z2,Z3,Z4]
  refine wpAnyH_ready (rs:=[7]) (by kernel_rfl) (by simp) (AllReadyH.cons (o:=⟨some 23,_,_,_,_,_⟩) rfl (fun K hK=>?_) AllReadyH.nil);go_simp;refine (C4.out z1 hcz1 A4 n4 c4 hy4 hn4 hnc4 hcm4).mono ?_;rintro e x9 ⟨rfl,hbx9⟩;have hcx9:=hcz1.trans (hbx9.mono hcz1.size);have hrx9:=RV.out _ _ _ _ hrz1 hbx9;refine hK.out _ _ hcx9 (fun hS=>?_);clear hK K;refine wpAnyH_ready (rs:=[8]) (by kernel_rfl) (by simp) (AllReadyH.cons (o:=⟨none,_,_,_,_,_⟩) rfl (fun K hK=>?_) AllReadyH.nil);rw[if_pos (by rfl)];refine wp_store_row 130 (.tmp 4) (.tmp 23) rfl G V2 (by rfl) (by rfl) 130 V1 hrx9 I2.out Z2.out O2.out ?_;have hcY:=below_setRow hcx9 hg V2;refine hK.out _ _ hcY (fun hS=>?_);clear hK K;have HY2:=Yy (PUT2.out x9 G hrx9 hg hcx9);clear hrx9 hcY;generalize x9.setRow G V2=Y2 at *;refine wpAnyH_done (by kernel_rfl) ?_ _;simp only[Act.put])
 all_goals (
  obtain⟨hrY2,hcY2⟩:=HY2.out;have Hr:=Yy hrY2;have Hc:=Yy hcY2;clear hrY2 hcY2;go_wp2_with (first | ((with_reducible refine wpList_load_row (o:=⟨some 24,.load 130 (.tmp 4),_,_,_,_⟩) ?_ 130 (.tmp 4) ?_ G ?_ 130 V2 (0,0) _ Hr.out Tryz.underlying130 ?_ I2.out ?_);rfl;rfl;rfl;rfl));refine (C5.out Y2).mono ?_;rintro e x ⟨rfl,hbx⟩;have hcx:=Hc.out.trans (hbx.mono Hc.out.size);have h0:=Yy (HRA.out x hcx);have hf:=FIN.out x hcx;have HF:=Yy hf;clear hf hbx hcx;go_wp2_with (first | ((with_reducible refine wpList_store_row (o:=⟨none,.store 26 (.tmp 2) (.tmp 25),_,_,_,_⟩) ?_ 26 (.tmp 2) (.tmp 25) ?_ w.heap.size VS ?_ ?_ 26 _ h0.out hIs.out hZs.out hOs.out ?_);rfl;rfl;rfl;rfl));exact bodyPost_ret (v:=.agg VS) (by exact results_cell_row Tryz.results79 _ _ w.heap.size 26 VS (0,0) _ rfl HF.out.1 Tryz.underlying26 rfl hIs.out) (by rfl) (HP.out _ _ rfl HF.out.2))
end
section
open Go.RowKit WM
theorem below_bytes (w:World) (e:TypeId) (s:ByteArray):Below w.heap.size w (Lib.bytesWorld w e s):=
 ⟨by simp[Lib.bytesWorld,World.freeze,World.alloc,World.drew, -World.alloc_eq, -World.drew_eq],by simp[Lib.bytesWorld,World.freeze,World.alloc,World.drew, -World.alloc_eq, -World.drew_eq],by simp[Lib.bytesWorld,World.freeze,World.alloc,World.drew, -World.alloc_eq, -World.drew_eq],by rw[Lib.bytesWorld_size];omega,fun k hk=>Lib.bytesWorld_at_old w e s k hk⟩
theorem byt_bytes (w:World) (e:TypeId) (s:ByteArray):Byt (Lib.bytesWorld w e s) (Lib.bytesWorld w e s).heap.size (some ⟨w.heap.size,0,none⟩) (nums s):=fun _=>by
 refine⟨_,_,rfl,by rw[Lib.bytesWorld_size];omega,fun i hi=>?_⟩;rw[nums_len]at hi;rw[Nat.zero_add,Lib.bytesWorld_cell w e s i hi];have hi':i<s.data.toList.length:=by rw[Array.length_toList];exact hi
 simp[nums,List.getD,List.getElem?_eq_getElem hi']
theorem Tta78 {p:Prop} (h:p:=by
  have h1:=below_bytes (w.alloc (.cells Z32 26)) 5 s;rw[HSZ.out]at h1;exact h1.trans (hbx.mono (by rw[Lib.bytesWorld_size,HSZ.out];omega))
 ):p:=h
theorem of_any (s:ByteArray) (w:World) (hlaid:Laid w) (hs:s.size≤1152921504606846975):
  Calls Tryz.prog 49 #[.string s] w (DSumPost (nums s) w):=by
 have hz:=zeroD;have hcv:=fun (w9:World)=>Lib.run_convert_string_bytes (P:=Tryz.prog) w9 9 105 5 s Tryz.underlying9 Tryz.underlying105 Tryz.underlying5;have hbA:Below w.heap.size w (w.alloc (.cells (bvals (List.replicate 32 0)) 26)):=(Below.refl _ _).alloc Nl _;have hrA:=BRow.new w 26 (List.replicate 32 0);have hszA:(w.alloc (.cells (bvals (List.replicate 32 0)) 26)).heap.size=w.heap.size+1:=World.size_alloc _ _;have HIs:=Yy (show (Tryz.prog.info? 26).map (·.size)=some (bvals (SH.sum (nums s))).size by rw[sizeD,bvals_size,SH.sum_len]);have HZs:=Yy (show (bvals (List.replicate 32 0)).size=(bvals (SH.sum (nums s))).size by rw[bvals_size,bvals_size,SH.sum_len,List.length_replicate]);have HOs:=Yy (bvals_one (SH.sum (nums s)));have HP:Hid (∀ e w',e=.returned (.agg (bvals (SH.sum (nums s))))→Below w.heap.size w w'→DSumPost (nums s) w e w'):=Yy (fun _ _ h1 h2=>⟨h1,h2⟩);have HC:=Yy (fun (X:World) (hX:Below w.heap.size w X)=>dsum_any (some ⟨X.heap.size,0,none⟩) s.size (grownCap X s.size 0 5) (nums s) (Lib.bytesWorld X 5 s) (hlaid.below (hX.trans ((below_bytes X 5 s).mono hX.size)) Nl) (byt_bytes X 5 s) (nums_len s) (grownCap_ge _ _ _ _) (grownCap_le_maxLen _ _ _ _ (by unfold maxLen;omega)) hs (fun e=>by cases e) (nums_bytes s) Nl);have HC:=Yy (HC.out _ hbA);rw[hszA]at HC;unfold DSumPost at HC
 have FIN:=Yy (fun (X:World) (hX:Below (w.heap.size+1) (w.alloc (.cells (bvals (List.replicate 32 0)) 26)) X)=>(⟨hrA.below hX (by omega),(hrA.below hX (by omega)).put (SH.sum (nums s)),below_setRow (hbA.trans (hX.mono (by omega))) Nl (bvals (SH.sum (nums s)))⟩:BRow X w.heap.size 26 (List.replicate 32 0)∧BRow (X.setRow w.heap.size (bvals (SH.sum (nums s)))) w.heap.size 26 (SH.sum (nums s))∧Below w.heap.size w (X.setRow w.heap.size (bvals (SH.sum (nums s))))));unfold BRow at FIN;have HBA:=Yy hbA;have HSZ:=Yy hszA;clear hrA hbA hszA hlaid;generalize bvals (List.replicate 32 0)=Z32 at *;generalize bvals (SH.sum (nums s))=VS at *;go_enter Tryz.func49,Tryz.ntmps49;go_wp2_with fail;refine HC.out.mono ?_;rintro e x ⟨rfl,hbx⟩;have hX:Below (w.heap.size+1) (w.alloc (.cells Z32 26)) x:=by
  exact Tta78
 obtain⟨f1,f2,f3⟩:=FIN.out x hX;have F1:=Yy f1;have F2:=Yy f2;have F3:=Yy f3;clear f1 f2 f3 hX hbx;go_wp2_with (first | ((with_reducible refine wpList_store_row (o:=⟨none,.store 26 (.tmp 2) (.tmp 5),_,_,_,_⟩) ?_ 26 (.tmp 2) (.tmp 5) ?_ w.heap.size VS ?_ ?_ 26 _ F1.out HIs.out HZs.out HOs.out ?_);rfl;rfl;rfl;rfl));exact bodyPost_ret (v:=.agg VS) (by exact results_cell_row Tryz.results49 _ _ w.heap.size 26 VS (0,0) _ rfl F2.out Tryz.underlying26 rfl HIs.out) (by rfl) (HP.out _ _ rfl F3.out)
theorem bvals_u8 {xs:List Int} (h:AllBytes xs):bvals xs=((xs.map fun z=>UInt8.ofNat z.toNat).map Extern.Stop.cell).toArray:=by
 unfold bvals
 congr 1
 rw[List.map_map];refine List.map_congr_left fun z hz=>?_;have:=h z hz;simp[Extern.Stop.cell,UInt8.toNat_ofNat'];omega
theorem u8_inj {xs ys:List Int} (hx:AllBytes xs) (hy:AllBytes ys):((xs.map fun z=>UInt8.ofNat z.toNat) == (ys.map fun z=>UInt8.ofNat z.toNat))=(xs == ys):=by
 rw[Bool.eq_iff_iff,beq_iff_eq,beq_iff_eq]
 constructor
 ·intro h;have:=(strOfNums_inj hx hy).1 (by rw[show strOfNums xs=⟨(xs.map fun z=>UInt8.ofNat z.toNat).toArray⟩ from rfl,show strOfNums ys=⟨(ys.map fun z=>UInt8.ofNat z.toNat).toArray⟩ from rfl,h]);exact this
 ·rintro rfl;rfl
theorem eq_dig {xs ys:List Int} (hx:AllBytes xs) (hy:AllBytes ys) (lx:xs.length=32) (ly:ys.length=32) (w:World):(Op.equalIn 10000 26 (.agg (bvals xs)) (.agg (bvals ys))).run Tryz.prog w=.ok (xs == ys) w:=by
 rw[bvals_u8 hx,bvals_u8 hy,← u8_inj hx hy];exact run_equalIn_bytes w 9998 26 5 32 Tryz.underlying26 Tryz.underlying5 (fun w=>sizeByte w) _ _ (by rw[List.length_map,lx]) (by rw[List.length_map,ly])
theorem lessL_at:∀ (k:Nat) {xs ys:List Int},xs.length=ys.length→k<xs.length→(∀ j,j<k→xs.getD j 0=ys.getD j 0)→xs.getD k 0≠ys.getD k 0→lessL xs ys=decide (xs.getD k 0<ys.getD k 0)
 | 0,x::xs,y::ys,_,_,_,hne=>by
  have:x≠y:=by simpa using hne
  simp[lessL,this]
 | k+1,x::xs,y::ys,hl,hk,hj,hne=>by
  have h0:x=y:=by simpa using hj 0 (by omega)
  have ih:=lessL_at k (xs:=xs) (ys:=ys) (by simpa using hl) (by simpa using hk) (fun j hj'=>by have:=hj (j+1) (by omega);simpa using this) (by simpa using hne);rw[lessL,ih,h0];simp
 | 0,[],_,_,h,_,_=>by simp at h
 | _+1,[],_,_,h,_,_=>by simp at h
 | 0,_::_,[],h,_,_,_=>by simp at h
 | _+1,_::_,[],h,_,_,_=>by simp at h
theorem lists_eq {xs ys:List Int} (hl:xs.length=ys.length) (h:∀ j,j<xs.length→xs.getD j 0=ys.getD j 0):xs=ys:=by
 apply List.ext_getElem hl;intro j h1 h2;have:=h j h1
 simpa [List.getD,List.getElem?_eq_getElem h1,List.getElem?_eq_getElem h2] using this
theorem lessL_self:∀ xs:List Int,lessL xs xs=false
 | []=>rfl
 | x::xs=>by rw[lessL,lessL_self xs];simp
theorem Tta91 {p:Prop} (h:p:=by
  subst hVX hVY;exact⟨0,by omega,rfl,fun j hj=>by omega,R0.out,R1.out,HB0.out⟩
 ):p:=h
theorem Ttb14 {p:Prop} (h:p:=by
  clear hkk;generalize xs.getD k 0=x at *;generalize ys.getD k 0=y at *;go_wp2_with fail
  go_quiet (fail)
  go_wp2_with fail
  go_quiet (fail)
  go_wp2;go_ret;exact⟨by rw[HV.out];rfl,below_drewN (below_drewN Hbel.out _) _⟩
 ):p:=h
theorem less_any (xs ys:List Int) (w:World) (hx:AllBytes xs) (hy:AllBytes ys) (lx:xs.length=32) (ly:ys.length=32):
  Calls Tryz.prog 48 #[.agg (bvals xs),.agg (bvals ys)] w fun e w'=>e=.returned (.bool (lessL xs ys))∧Below w.heap.size w w':=by
 have heq:=eq_dig hx hy lx ly;have HI1:=Yy (show (Tryz.prog.info? 26).map (·.size)=some (bvals xs).size by rw[sizeD,bvals_size,lx]);have HI2:=Yy (show (Tryz.prog.info? 26).map (·.size)=some (bvals ys).size by rw[sizeD,bvals_size,ly]);have hr0:=(BRow.new w 26 xs).old (.cells (bvals ys) 26);have hr1:=BRow.new (w.alloc (.cells (bvals xs) 26)) 26 ys;rw[World.size_alloc]at hr1;have hb0:Below w.heap.size w ((w.alloc (.cells (bvals xs) 26)).alloc (.cells (bvals ys) 26)):=((Below.refl _ _).alloc Nl _).alloc (by simp) _;have LX:=Yy lx;have LY:=Yy ly;have R0:=Yy hr0;have R1:=Yy hr1;have HB0:=Yy hb0;unfold BRow at hr0 hr1;have G0:=Yy hr0;have G1:=Yy hr1;clear lx ly hx hy hr0 hr1 hb0;by_cases he:xs=ys
 ·have h1:(xs == ys)=true:=by simp[he]
  have HL:=Yy (show lessL xs ys=false by rw[he];exact lessL_self _);rw[h1]at heq;clear he h1;generalize bvals xs=VX at *;generalize bvals ys=VY at *;go_enter Tryz.func48,Tryz.ntmps48;go_wp2_with (first | ((with_reducible refine wpList_load_row (o:=⟨some 6,.load 26 (.tmp 2),_,_,_,_⟩) ?_ 26 (.tmp 2) ?_ w.heap.size ?_ 26 VX (0,0) _ G0.out Tryz.underlying26 ?_ HI1.out ?_);rfl;rfl;rfl;rfl) | ((with_reducible refine wpList_load_row (o:=⟨some 7,.load 26 (.tmp 3),_,_,_,_⟩) ?_ 26 (.tmp 3) ?_ (w.heap.size+1) ?_ 26 VY (0,0) _ G1.out Tryz.underlying26 ?_ HI2.out ?_);rfl;rfl;rfl;rfl));go_ret;exact⟨by rw[HL.out];rfl,HB0.out⟩
 ·have h1:(xs == ys)=false:=by simp[he]
  have HNE:=Yy he;rw[h1]at heq;clear he h1;generalize hVX:bvals xs=VX at *;generalize hVY:bvals ys=VY at *;go_enter Tryz.func48,Tryz.ntmps48;go_wp2_with (first | ((with_reducible refine wpList_load_row (o:=⟨some 6,.load 26 (.tmp 2),_,_,_,_⟩) ?_ 26 (.tmp 2) ?_ w.heap.size ?_ 26 VX (0,0) _ G0.out Tryz.underlying26 ?_ HI1.out ?_);rfl;rfl;rfl;rfl) | ((with_reducible refine wpList_load_row (o:=⟨some 7,.load 26 (.tmp 3),_,_,_,_⟩) ?_ 26 (.tmp 3) ?_ (w.heap.size+1) ?_ 26 VY (0,0) _ G1.out Tryz.underlying26 ?_ HI2.out ?_);rfl;rfl;rfl;rfl));clear heq;go_loopw [5] (fun i wr=>∃ k:Nat,k≤31∧i=.int .i64 (k:Int)∧(∀ j,j<k→xs.getD j 0=ys.getD j 0)∧BRow wr w.heap.size 26 xs∧BRow wr (w.heap.size+1) 26 ys∧Below w.heap.size w wr) (fun i _=>32 - (intOf i).toNat)
  case atStart=>
   exact Tta91
  case round=>
   obtain⟨k,hk,rfl,hpre,hr0,hr1,hbel⟩:=hrel;have c0:=hr0.cell (j:=k) (by rw[LX.out];omega);have c1:=hr1.cell (j:=k) (by rw[LY.out];omega);have HPre:=Yy hpre;have Hr0:=Yy hr0;have Hr1:=Yy hr1;have Hbel:=Yy hbel;clear hpre hr0 hr1 hbel R0 R1 HB0 G0 G1;by_cases hkk:xs.getD k 0=ys.getD k 0
   ·have hk30:k≤30:=by
     rcases Nat.lt_or_ge k 31 with h2 | h2
     ·omega
     ·exfalso
      apply HNE.out;refine lists_eq (by rw[LX.out,LY.out]) fun j hj=>?_;rw[LX.out]at hj;rcases Nat.lt_or_ge j k with h3 | h3
      ·exact HPre.out j h3
      ·rw[show j=k by omega];exact hkk
    have HNX:=Yy (show ∀ j,j<k+1→xs.getD j 0=ys.getD j 0 from fun j hj=>by
     rcases Nat.lt_or_ge j k with h3 | h3
     ·exact HPre.out j h3
     ·rw[show j=k by omega];exact hkk)
    have ht:(xs.getD k 0 == ys.getD k 0)=true:=beq_iff_eq.2 hkk;clear hkk;generalize xs.getD k 0=x at *;generalize ys.getD k 0=y at *;go_wp2_with fail
    go_quiet (fail)
    go_wp2;go_roundw
    case rel=>
     exact⟨k+1,by omega,by go_num,HNX.out,Hr0.out,Hr1.out,below_drewN Hbel.out _⟩
    case measure=>simp[intOf];omega
   ·have HV:=Yy (lessL_at k (by rw[LX.out,LY.out]) (by rw[LX.out];omega) HPre.out hkk);have ht:(xs.getD k 0 == ys.getD k 0)=false:=beq_eq_false_iff_ne.2 hkk;exact Ttb14
end
end
section
section
open Go.RowKit WM
section
variable {P:Program} {ops:Array Oper} {Q:Exit→Act→World→Prop} {md:Region.Mode} {S:World→Prop}
def Uni (P:Program) (S:World→Prop) (x:Sem Next) (v:Value):Prop:=
 ∀ w,S w→x.run P w=.ok (.value v) w∨∃ f args,x.run P w=.ok (.enter f args) w∧Calls P f args w fun e w'=>e=.returned v∧S w'
def UniIf (P:Program) (ops:Array Oper) (S:World→Prop) (o:Oper) (v:Value) (a:Act):Prop:=
 (Region.wanted o (yielded ops a.tmps)=true∧Uni P S (execOp a.eval o) v)∨(Region.wanted o (yielded ops a.tmps)=false∧v=undef)
def wpU (P:Program) (md:Region.Mode) (ops:Array Oper) (Q:Exit→Act→World→Prop) (S:World→Prop):Nat→Array Bool→Act→Prop
 | 0,listed,a=>Region.ready md ops listed=[]∧∀ w,S w→Q .normal a w
 | fuel+1,listed,a=>
  (Region.ready md ops listed=[]→∀ w,S w→Q .normal a w) ∧
  ∀ i∈Region.ready md ops listed,∃ o v,ops[i]?=some o∧UniIf P ops S o v a∧wpU P md ops Q S fuel (listed.setIfInBounds i true) (a.put o.dst v)
theorem wpU_done {listed:Array Bool} {a:Act} (hr:Region.ready md ops listed=[]) (h:∀ w,S w→Q .normal a w):∀ fuel,wpU P md ops Q S fuel listed a
 | 0=>⟨hr,h⟩
 | _+1=>⟨fun _=>h,by rw[hr];simp⟩
end
end
section
open Go.RowKit WM
abbrev Blks:=List (Nat×Array Value×TypeId)
def HasBlks (L:Blks) (w:World):Prop:=∀ x∈L,w.heap[x.1]?=some (.cells x.2.1 x.2.2)
theorem HasBlks.lt {L:Blks} {w:World} (h:HasBlks L w) {x:Nat×Array Value×TypeId} (hx:x∈L):x.1<w.heap.size:=by
 rcases Nat.lt_or_ge x.1 w.heap.size with h1 | h1
 ·exact h1
 ·have:=h x hx;rw[Array.getElem?_eq_none h1]at this;cases this
theorem HasBlks.below {L:Blks} {w w':World} (h:HasBlks L w) (hb:Below w.heap.size w w'):HasBlks L w':=fun x hx=>by
 rw[hb.block _ (h.lt hx)];exact h x hx
section
variable {P:Program} {ops:Array Oper} {Q:Exit→Act→World→Prop} {md:Region.Mode} {W0:World}
def UniB (P:Program) (W0:World) (x:Sem Next) (v:Value):Prop:=
 ∀ w,Below W0.heap.size W0 w→x.run P w=.ok (.value v) w∨∃ f args,x.run P w=.ok (.enter f args) w∧Calls P f args w fun e w'=>e=.returned v∧Below w.heap.size w w'
def UniBIf (P:Program) (ops:Array Oper) (W0:World) (o:Oper) (v:Value) (a:Act):Prop:=
 (Region.wanted o (yielded ops a.tmps)=true∧UniB P W0 (execOp a.eval o) v)∨(Region.wanted o (yielded ops a.tmps)=false∧v=undef)
def AllocOp (P:Program) (ops:Array Oper) (W0:World) (o:Oper) (z:Array Value) (t:TypeId) (a:Act):Prop:=
 Region.wanted o (yielded ops a.tmps)=true∧∀ w,Below W0.heap.size W0 w→(execOp a.eval o).run P w=.ok (.value (.pointer (some ⟨w.heap.size,0,none⟩))) (w.alloc (.cells z t))
def StoreOp (P:Program) (ops:Array Oper) (W0:World) (L L':Blks) (o:Oper) (v:Value) (a:Act):Prop:=
 Region.wanted o (yielded ops a.tmps)=true∧∀ w,Below W0.heap.size W0 w→HasBlks L w→∃ w',((execOp a.eval o).run P w=.ok (.value v) w'∨((execOp a.eval o).run P w=.ok .skip w'∧v=undef))∧Below W0.heap.size W0 w'∧HasBlks L' w'
def Same (P:Program) (ops:Array Oper) (o:Oper) (a a':Act):Prop:=execOp a'.eval o=execOp a.eval o∧Region.wanted o (yielded ops a'.tmps)=Region.wanted o (yielded ops a.tmps)
theorem UniBIf.of_same {o:Oper} {v:Value} {a a':Act} (hy:UniBIf P ops W0 o v a) (h:Same P ops o a a'):UniBIf P ops W0 o v a':=by
 unfold UniBIf at *;rw[h.1,h.2];exact hy
theorem AllocOp.of_same {o:Oper} {z:Array Value} {t:TypeId} {a a':Act} (hy:AllocOp P ops W0 o z t a) (h:Same P ops o a a'):AllocOp P ops W0 o z t a':=by
 unfold AllocOp at *;rw[h.1,h.2];exact hy
theorem StoreOp.of_same {o:Oper} {L L':Blks} {v:Value} {a a':Act} (hy:StoreOp P ops W0 L L' o v a) (h:Same P ops o a a'):StoreOp P ops W0 L L' o v a':=by
 unfold StoreOp at *;rw[h.1,h.2];exact hy
def wpG (P:Program) (md:Region.Mode) (ops:Array Oper) (Q:Exit→Act→World→Prop) (W0:World):Nat→Blks→Array Bool→Act→Prop
 | 0,L,listed,a=>Region.ready md ops listed=[]∧∀ w,Below W0.heap.size W0 w→HasBlks L w→Q .normal a w
 | fuel+1,L,listed,a=>
  (Region.ready md ops listed=[]→∀ w,Below W0.heap.size W0 w→HasBlks L w→Q .normal a w) ∧
  ∀ i∈Region.ready md ops listed,∃ o,ops[i]?=some o ∧
   ((∃ v,UniBIf P ops W0 o v a∧wpG P md ops Q W0 fuel L (listed.setIfInBounds i true) (a.put o.dst v)) ∨
    (∃ z t,AllocOp P ops W0 o z t a∧∀ g,W0.heap.size≤g→(∀ x∈L,x.1≠g)→wpG P md ops Q W0 fuel ((g,z,t)::L) (listed.setIfInBounds i true) (a.put o.dst (.pointer (some ⟨g,0,none⟩)))) ∨
    (∃ L' v,StoreOp P ops W0 L L' o v a∧wpG P md ops Q W0 fuel L' (listed.setIfInBounds i true) (a.put o.dst v)))
theorem wpAny_of_G:∀ (fuel:Nat) (L:Blks) (listed:Array Bool) (a:Act),wpG P md ops Q W0 fuel L listed a→∀ w,Below W0.heap.size W0 w→HasBlks L w→wpAny P md ops Q fuel listed a w
 | 0,_,_,_,h,w,hS,hL=>⟨h.1,h.2 w hS hL⟩
 | fuel+1,L,_,a,h,w,hS,hL=>⟨fun h0=>h.1 h0 w hS hL,fun i hi=>by
   obtain⟨o,ho,h1⟩:=h.2 i hi;unfold Go.wpOp;simp only[ho];rcases h1 with ⟨v,hu,hr⟩ | ⟨z,t,hu,hr⟩ | ⟨L',v,hu,hr⟩
   ·rcases hu with ⟨hw,hv⟩ | ⟨hw,rfl⟩
    ·simp only[hw,if_true,Oper.wp];refine .inl ?_;rcases hv w hS with h1 | ⟨f,args,h1,h2⟩
     ·rw[h1];exact wpAny_of_G fuel L _ _ hr w hS hL
     ·rw[h1,Oper.upon_enter];refine h2.mono ?_;rintro e w' ⟨rfl,hb⟩;exact wpAny_of_G fuel L _ _ hr w' (hS.trans (hb.mono hS.size)) (hL.below hb)
    ·simp only[hw,Bool.false_eq_true,if_false];exact wpAny_of_G fuel L _ _ hr w hS hL
   ·simp only[hu.1,if_true,Oper.wp];refine .inl ?_;rw[hu.2 w hS];have hb:=(Below.refl w.heap.size w).alloc Nl (.cells z t);refine wpAny_of_G fuel _ _ _ (hr w.heap.size hS.size (fun x hx=>Nat.ne_of_lt (hL.lt hx))) _ (hS.trans (hb.mono hS.size)) ?_;intro x hx;rcases List.mem_cons.1 hx with rfl | hx
    ·exact heap_alloc_new w _
    ·exact hL.below hb x hx
   ·simp only[hu.1,if_true,Oper.wp];refine .inl ?_;obtain⟨w',h1,h2,h3⟩:=hu.2 w hS hL;rcases h1 with h1 | ⟨h1,rfl⟩
    ·rw[h1];exact wpAny_of_G fuel L' _ _ hr w' h2 h3
    ·rw[h1];exact wpAny_of_G fuel L' _ _ hr w' h2 h3⟩
theorem wpG_first {i:Nat} {oi:Oper} {v:Value} (hi:ops[i]?=some oi) (hsel:∀ (j:Nat) (o:Oper) cs b,ops[j]?=some o→o.op≠.select cs b):
  ∀ (fuel:Nat) (L:Blks) (listed:Array Bool) (a:Act),
   (∀ j oj,ops[j]?=some oj→j≠i→listed.getD j true=false→(∀ e∈oj.after,Region.binds md e=true→e.on≠i)→oi.apart ops oj=true) →
   i∈Region.ready md ops listed→UniBIf P ops W0 oi v a →
   wpG P md ops Q W0 fuel L (listed.setIfInBounds i true) (a.put oi.dst v)→wpG P md ops Q W0 (fuel+1) L listed a:=by
 intro fuel
 induction fuel with
 | zero=>
  intro L listed a _ hr hy H;refine⟨fun h=>(by rw[h]at hr;cases hr),fun j hj=>?_⟩;by_cases hji:j=i
  ·subst hji;exact⟨oi,hi,.inl ⟨v,hy,H⟩⟩
  ·have:=ready_mono hj hji;rw[H.1]at this;cases this
 | succ fuel ih=>
  intro L listed a hfree hr hy H;refine⟨fun h=>(by rw[h]at hr;cases hr),fun j hj=>?_⟩;by_cases hji:j=i
  ·subst hji;exact⟨oi,hi,.inl ⟨v,hy,H⟩⟩
  ·obtain⟨oj,hoj,hr1⟩:=H.2 j (ready_mono hj hji);obtain⟨hjun,oj',hoj',hall⟩:=mem_ready.1 hj;obtain rfl:oj=oj':=by rw[hoj]at hoj';exact Option.some.inj hoj'
   have hnot:∀ e∈oj.after,Region.binds md e=true→e.on≠i:=fun e he hb heq=>by
    have h1:=hall e he hb;have h0:=(mem_ready.1 hr).1;rw[heq]at h1;rcases Nat.lt_or_ge i listed.size with h' | h'
    ·simp[h']at h0 h1;rw[h0]at h1;cases h1
    ·simp[Array.getElem?_eq_none h']at h1
   obtain⟨h1,h2,h3⟩:=Oper.apart_spec (hfree j oj hoj hji hjun hnot);have hfree':∀ k ok,ops[k]?=some ok→k≠i→(listed.setIfInBounds j true).getD k true=false →
     (∀ e∈ok.after,Region.binds md e=true→e.on≠i)→oi.apart ops ok=true:=fun k ok hk hki hun hno=>by
    refine hfree k ok hk hki ?_ hno;by_cases hjk:j=k
    ·subst hjk;exact hjun
    ·rw[getD_set_ne true hjk]at hun;exact hun
   have hsame:Same P ops oj (a.put oi.dst v) a:=⟨(execOp_put oj (fun cs b=>hsel j oj cs b hoj) a oi.dst v h1).symm,(wanted_put oj a oi.dst v h1).symm⟩;have hsi:∀ u,UniBIf P ops W0 oi v (a.put oj.dst u):=fun u=>hy.of_same ⟨execOp_put oi (fun cs b=>hsel i oi cs b hi) a oj.dst u h3,wanted_put oi a oj.dst u h3⟩;have hgo:∀ (L':Blks) (u:Value),wpG P md ops Q W0 fuel L' ((listed.setIfInBounds i true).setIfInBounds j true) ((a.put oi.dst v).put oj.dst u)→wpG P md ops Q W0 (fuel+1) L' (listed.setIfInBounds j true) (a.put oj.dst u):=fun L' u h=>by
    refine ih L' (listed.setIfInBounds j true) _ hfree' (ready_mono hr (Ne.symm hji)) (hsi u) ?_;rw[Array.setIfInBounds_comm _ _ hji,← Act.put_comm a v u h2];exact h
   refine⟨oj,hoj,?_⟩;rcases hr1 with ⟨u,hu,hr⟩ | ⟨z,t,hu,hr⟩ | ⟨L',u,hu,hr⟩
   ·exact .inl ⟨u,hu.of_same hsame,hgo L u hr⟩
   ·exact .inr (.inl ⟨z,t,hu.of_same hsame,fun g hg hn=>hgo _ _ (hr g hg hn)⟩)
   ·exact .inr (.inr ⟨L',u,hu.of_same hsame,hgo L' u hr⟩)
theorem wpG_take {i:Nat} {oi:Oper} {v:Value} {fuel:Nat} {L:Blks} {listed:Array Bool} {a:Act} (hi:ops[i]?=some oi)
  (hs:Region.noSelect ops=true) (hf:Region.free md ops listed i=true) (hr:(Region.ready md ops listed).contains i=true)
  (hy:UniBIf P ops W0 oi v a) (h:wpG P md ops Q W0 fuel L (listed.setIfInBounds i true) (a.put oi.dst v)):wpG P md ops Q W0 (fuel+1) L listed a:=
 wpG_first hi (Region.noSelect_spec hs) fuel L listed a (Region.free_spec hi hf) (by simpa using hr) hy h
theorem wpG_alloc {i:Nat} {oi:Oper} {z:Array Value} {t:TypeId} {fuel:Nat} {L:Blks} {listed:Array Bool} {a:Act} (hr:Region.ready md ops listed=[i]) (hi:ops[i]?=some oi)
  (hy:AllocOp P ops W0 oi z t a) (h:∀ g,W0.heap.size≤g→(∀ x∈L,x.1≠g)→wpG P md ops Q W0 fuel ((g,z,t)::L) (listed.setIfInBounds i true) (a.put oi.dst (.pointer (some ⟨g,0,none⟩)))):wpG P md ops Q W0 (fuel+1) L listed a:=
 ⟨fun h0=>(by rw[hr]at h0;cases h0),fun j hj=>by rw[hr]at hj;obtain rfl:=List.mem_singleton.1 hj;exact⟨oi,hi,.inr (.inl ⟨z,t,hy,h⟩)⟩⟩
theorem wpG_store {i:Nat} {oi:Oper} {v:Value} {fuel:Nat} {L:Blks} (L':Blks) {listed:Array Bool} {a:Act} (hr:Region.ready md ops listed=[i]) (hi:ops[i]?=some oi)
  (hy:StoreOp P ops W0 L L' oi v a) (h:wpG P md ops Q W0 fuel L' (listed.setIfInBounds i true) (a.put oi.dst v)):wpG P md ops Q W0 (fuel+1) L listed a:=
 ⟨fun h0=>(by rw[hr]at h0;cases h0),fun j hj=>by rw[hr]at hj;obtain rfl:=List.mem_singleton.1 hj;exact⟨oi,hi,.inr (.inr ⟨L',v,hy,h⟩)⟩⟩
theorem wpG_done {L:Blks} {listed:Array Bool} {a:Act} (hr:Region.ready md ops listed=[]) (h:∀ w,Below W0.heap.size W0 w→HasBlks L w→Q .normal a w):∀ fuel,wpG P md ops Q W0 fuel L listed a
 | 0=>⟨hr,h⟩
 | _+1=>⟨fun _=>h,by rw[hr];simp⟩
theorem wp_region_G (W0:World) {id:Nat} {a:Act} (hm:P.follows .mixedOrders=true)
  (h:wpG P .any ops Q W0 ops.size [] (Array.replicate ops.size false) a):(Code.region id ops true).wp P Q a W0:=
 wp_region_any hm (wpAny_of_G _ _ _ _ h _ ((Below.refl _ _).drew) (fun x hx=>by cases hx))
theorem unib_val {x:Sem Next} {v:Value} (h:∀ w,Below W0.heap.size W0 w→x.run P w=.ok (.value v) w):UniB P W0 x v:=fun w hS=>.inl (h w hS)
theorem unib_call {x:Sem Next} {v:Value} {f:FuncId} {args:Array Value} (h:∀ w,Below W0.heap.size W0 w→x.run P w=.ok (.enter f args) w) (hc:∀ w,Calls P f args w fun e w'=>e=.returned v∧Below w.heap.size w w'):UniB P W0 x v:=
 fun w hS=>.inr ⟨f,args,h w hS,hc w⟩
theorem unib_call_if {x:Sem Next} {v:Value} {f:FuncId} {args:Array Value} (h:∀ w,Below W0.heap.size W0 w→x.run P w=.ok (.enter f args) w) (hc:∀ w,Below W0.heap.size W0 w→Calls P f args w fun e w'=>e=.returned v∧Below w.heap.size w w'):UniB P W0 x v:=
 fun w hS=>.inr ⟨f,args,h w hS,hc w hS⟩
end
end
end
section
open Go.RowKit WM
variable {P:Program} {ops:Array Oper} {Q:Exit→Act→World→Prop} {md:Region.Mode} {W0:World}
theorem wpGv {i:Nat} {oi:Oper} {v:Value} {fuel:Nat} {L:Blks} {listed:Array Bool} {a:Act} (hi:ops[i]?=some oi) (hx:∀ w,Below W0.heap.size W0 w→(execOp a.eval oi).run P w=.ok (.value v) w)
    (h:wpG P md ops Q W0 fuel L (listed.setIfInBounds i true) (a.put oi.dst v)) (hw:Region.wanted oi (yielded ops a.tmps)=true:=by rfl) (hs:Region.noSelect ops=true:=by kernel_rfl) (hf:Region.free md ops listed i=true:=by kernel_rfl) (hr:(Region.ready md ops listed).contains i=true:=by kernel_rfl):wpG P md ops Q W0 (fuel+1) L listed a:=
  wpG_take hi hs hf hr (Or.inl ⟨hw,unib_val hx⟩) h
theorem wpGo {i:Nat} {oi:Oper} {fuel:Nat} {L:Blks} {listed:Array Bool} {a:Act} (hi:ops[i]?=some oi) (h:wpG P md ops Q W0 fuel L (listed.setIfInBounds i true) (a.put oi.dst undef)) (hw:Region.wanted oi (yielded ops a.tmps)=false:=by rfl)
    (hs:Region.noSelect ops=true:=by kernel_rfl) (hf:Region.free md ops listed i=true:=by kernel_rfl) (hr:(Region.ready md ops listed).contains i=true:=by kernel_rfl):wpG P md ops Q W0 (fuel+1) L listed a:=
  wpG_take hi hs hf hr (Or.inr ⟨hw,rfl⟩) h
end
section
open Go.RowKit WM
variable {P:Program} {ops:Array Oper} {Q:Exit→Act→World→Prop} {md:Region.Mode} {W0:World} {fuel:Nat} {L:Blks} {l:Array Bool} {a a':Act} {op:Op} {tt:TypeId} {pos:String} {af:Array Edge} {gd:Option (Nat×Bool)}
theorem YGd (i:Nat) (d:Option Tmp) (v:Value) (hi:ops[i]?=some ⟨d,op,tt,pos,af,gd⟩) (hx:∀ w,Below W0.heap.size W0 w→(execOp a.eval ⟨d,op,tt,pos,af,gd⟩).run P w=.ok (.value v) w) (h:wpG P md ops Q W0 fuel L (l.setIfInBounds i true) a')
    (ha:a.put d v=a':=by simp only[Act.put,Z2,Z3,Z4];rfl) (hw:Region.wanted ⟨d,op,tt,pos,af,gd⟩ (yielded ops a.tmps)=true:=by rfl) (hs:Region.noSelect ops=true:=by kernel_rfl) (hf:Region.free md ops l i=true:=by kernel_rfl) (hr:(Region.ready md ops l).contains i=true:=by kernel_rfl):wpG P md ops Q W0 (fuel+1) L l a:=
  wpG_take hi hs hf hr (Or.inl ⟨hw,unib_val hx⟩) (by rw[ha];exact h)
theorem YGa (i:Nat) (d:Option Tmp) {v:Value} (hi:ops[i]?=some ⟨d,op,tt,pos,af,gd⟩) (h:wpG P md ops Q W0 fuel L (l.setIfInBounds i true) a') (hx:∀ w,Below W0.heap.size W0 w→(execOp a.eval ⟨d,op,tt,pos,af,gd⟩).run P w=.ok (.value v) w:=by intro w9 hSw;go_simp;try with_reducible rfl)
    (ha:a.put d v=a':=by simp only[Act.put,Z2,Z3,Z4];rfl) (hw:Region.wanted ⟨d,op,tt,pos,af,gd⟩ (yielded ops a.tmps)=true:=by rfl) (hs:Region.noSelect ops=true:=by kernel_rfl) (hf:Region.free md ops l i=true:=by kernel_rfl) (hr:(Region.ready md ops l).contains i=true:=by kernel_rfl):wpG P md ops Q W0 (fuel+1) L l a:=
  YGd i d v hi hx h ha hw hs hf hr
theorem YGb (i:Nat) (d:Option Tmp) {v:Value} {p:World→Prop} (hi:ops[i]?=some ⟨d,op,tt,pos,af,gd⟩) (q:∀ w,Below W0.heap.size W0 w→p w) (h:wpG P md ops Q W0 fuel L (l.setIfInBounds i true) a') (hx:∀ w,Below W0.heap.size W0 w→p w→(execOp a.eval ⟨d,op,tt,pos,af,gd⟩).run P w=.ok (.value v) w:=by intro w9 hSw q0;go_simp;try with_reducible rfl)
    (ha:a.put d v=a':=by simp only[Act.put,Z2,Z3,Z4];rfl) (hw:Region.wanted ⟨d,op,tt,pos,af,gd⟩ (yielded ops a.tmps)=true:=by rfl) (hs:Region.noSelect ops=true:=by kernel_rfl) (hf:Region.free md ops l i=true:=by kernel_rfl) (hr:(Region.ready md ops l).contains i=true:=by kernel_rfl):wpG P md ops Q W0 (fuel+1) L l a:=
  YGd i d v hi (fun w hw=>hx w hw (q w hw)) h ha hw hs hf hr
theorem YGc (i:Nat) (d:Option Tmp) {v:Value} {p p':World→Prop} (hi:ops[i]?=some ⟨d,op,tt,pos,af,gd⟩) (q:∀ w,Below W0.heap.size W0 w→p w) (q':∀ w,Below W0.heap.size W0 w→p' w) (h:wpG P md ops Q W0 fuel L (l.setIfInBounds i true) a') (hx:∀ w,Below W0.heap.size W0 w→p w→p' w→(execOp a.eval ⟨d,op,tt,pos,af,gd⟩).run P w=.ok (.value v) w:=by intro w9 hSw q0 q1;go_simp;try with_reducible rfl)
    (ha:a.put d v=a':=by simp only[Act.put,Z2,Z3,Z4];rfl) (hw:Region.wanted ⟨d,op,tt,pos,af,gd⟩ (yielded ops a.tmps)=true:=by rfl) (hs:Region.noSelect ops=true:=by kernel_rfl) (hf:Region.free md ops l i=true:=by kernel_rfl) (hr:(Region.ready md ops l).contains i=true:=by kernel_rfl):wpG P md ops Q W0 (fuel+1) L l a:=
  YGd i d v hi (fun w hw=>hx w hw (q w hw) (q' w hw)) h ha hw hs hf hr
theorem YGo (i:Nat) (d:Option Tmp) (hi:ops[i]?=some ⟨d,op,tt,pos,af,gd⟩) (h:wpG P md ops Q W0 fuel L (l.setIfInBounds i true) a')
    (ha:a.put d undef=a':=by simp only[Act.put,Z2,Z3,Z4];rfl) (hw:Region.wanted ⟨d,op,tt,pos,af,gd⟩ (yielded ops a.tmps)=false:=by rfl) (hs:Region.noSelect ops=true:=by kernel_rfl) (hf:Region.free md ops l i=true:=by kernel_rfl) (hr:(Region.ready md ops l).contains i=true:=by kernel_rfl):wpG P md ops Q W0 (fuel+1) L l a:=
  wpG_take hi hs hf hr (Or.inr ⟨hw,rfl⟩) (by rw[ha];exact h)
theorem YGk (i:Nat) (d:Option Tmp) {v:Value} {f:FuncId} {args:Array Value} (hi:ops[i]?=some ⟨d,op,tt,pos,af,gd⟩) (hc:∀ w,Calls P f args w fun e w'=>e=.returned v∧Below w.heap.size w w') (h:wpG P md ops Q W0 fuel L (l.setIfInBounds i true) a') (hx:∀ w,Below W0.heap.size W0 w→(execOp a.eval ⟨d,op,tt,pos,af,gd⟩).run P w=.ok (.enter f args) w:=by intro w9 hSw;go_simp;try with_reducible rfl)
    (ha:a.put d v=a':=by simp only[Act.put,Z2,Z3,Z4];rfl) (hw:Region.wanted ⟨d,op,tt,pos,af,gd⟩ (yielded ops a.tmps)=true:=by rfl) (hs:Region.noSelect ops=true:=by kernel_rfl) (hf:Region.free md ops l i=true:=by kernel_rfl) (hr:(Region.ready md ops l).contains i=true:=by kernel_rfl):wpG P md ops Q W0 (fuel+1) L l a:=
  wpG_take hi hs hf hr (Or.inl ⟨hw,unib_call hx hc⟩) (by rw[ha];exact h)
theorem YGj (i:Nat) (d:Option Tmp) {v:Value} {f:FuncId} {args:Array Value} (hi:ops[i]?=some ⟨d,op,tt,pos,af,gd⟩) (hc:∀ w,Below W0.heap.size W0 w→Calls P f args w fun e w'=>e=.returned v∧Below w.heap.size w w') (h:wpG P md ops Q W0 fuel L (l.setIfInBounds i true) a') (hx:∀ w,Below W0.heap.size W0 w→(execOp a.eval ⟨d,op,tt,pos,af,gd⟩).run P w=.ok (.enter f args) w:=by intro w9 hSw;go_simp;try with_reducible rfl)
    (ha:a.put d v=a':=by simp only[Act.put,Z2,Z3,Z4];rfl) (hw:Region.wanted ⟨d,op,tt,pos,af,gd⟩ (yielded ops a.tmps)=true:=by rfl) (hs:Region.noSelect ops=true:=by kernel_rfl) (hf:Region.free md ops l i=true:=by kernel_rfl) (hr:(Region.ready md ops l).contains i=true:=by kernel_rfl):wpG P md ops Q W0 (fuel+1) L l a:=
  wpG_take hi hs hf hr (Or.inl ⟨hw,unib_call_if hx hc⟩) (by rw[ha];exact h)
end
section
section
open Go.RowKit WM
theorem Tta56 {p:Prop} (h:p:=by
  subst e;have hs:k<s.size:=by rw[nums_len]at hk;exact hk
  have hd:k<s.data.toList.length:=by rw[Array.length_toList];exact hs
  rw[run_index_string (P:=Tryz.prog) w 9 s .i64 k Tryz.underlying9];simp[nums,List.getD,hs]
  rfl
 ):p:=h
theorem ix_strR (s:ByteArray) (k:Nat) (hk:k<(nums s).length) (K:Int) (e:K=k) (w:World):(Instr.index 9 (.string s) (.int .i64 K)).run Tryz.prog w=.ok (.int .u8 ((nums s).getD k 0)) w:=by
 exact Tta56
theorem byte_at (s:ByteArray) (k:Nat):0≤(nums s).getD k 0∧(nums s).getD k 0≤255:=by
 rw[List.getD_eq_getElem?_getD];rcases Nat.lt_or_ge k (nums s).length with h | h
 ·rw[List.getElem?_eq_getElem h];exact nums_bytes s _ (List.getElem_mem h)
 ·rw[List.getElem?_eq_none h];simp
end
section
open Go.RowKit WM
theorem nums_extract (s:ByteArray) (i j:Nat):nums (s.extract i j)=((nums s).drop i).take (j - i):=by
 unfold nums;rw[ByteArray.data_extract,Array.toList_extract];simp[List.extract,List.map_drop,List.map_take]
theorem extract_size (s:ByteArray) (i j:Nat) (hj:j≤s.size):(s.extract i j).size=j - i:=by rw[ByteArray.size_extract];omega
end
section
open Go.RowKit WM
end
section
open Go.RowKit WM
theorem shl16 (b:Nat):Op.shift BinOp.shl .u32 (b:Int) .u64 16=pure (.int .u32 ((b*65536 % 4294967296:Nat):Int)):=by
 rw[shift_shl_any _ _ _ _ (by omega),IntKind.wrap_u32',show IntKind.u32.bits=32 from rfl]
 congr 2
theorem mask16 (a:Nat) (h:a<4294967296):bits .and .u32 (a:Int) 65535=((a % 65536:Nat):Int):=by
 rw[show (65535:Int)=((65535:Nat):Int) from rfl,u32_and_nat _ _ h (by omega)]
 congr 1
 exact Nat.and_two_pow_sub_one_eq_mod a 16
theorem both16 (a b:Nat):bits .or .u32 ((b*65536 % 4294967296:Nat):Int) ((a % 65536:Nat):Int)=((65536*(b % 65536)+a % 65536:Nat):Int):=by
 rw[u32_or_nat _ _ (Nat.mod_lt _ (by omega)) (by omega)]
 congr 1
 have e:b*65536 % 4294967296=(b % 65536) <<< 16:=by rw[Nat.shiftLeft_eq];omega
 rw[e,← Nat.shiftLeft_add_eq_or_of_lt (by omega:a % 65536<2 ^ 16),Nat.shiftLeft_eq];omega
theorem rlchk_any (a b:Nat) (w:World) (ha:a<4294967296):Calls Tryz.prog 137 #[.int .u32 a,.int .u32 b] w fun e w'=>e=.returned (.int .u32 ((65536*(b % 65536)+a % 65536:Nat):Int))∧Below w.heap.size w w':=by
 have HB:=Yy (Below.refl w.heap.size w);have h1:=shl16 b;have h2:=mask16 a ha;have h3:=both16 a b;generalize ((65536*(b % 65536)+a % 65536:Nat):Int)=r at *;generalize ((b*65536 % 4294967296:Nat):Int)=p at *;generalize ((a % 65536:Nat):Int)=q at *;clear ha;go_enter Tryz.func137,Tryz.ntmps137;go_wp2;go_ret;exact⟨rfl,HB.out⟩
theorem take_sA {zs:List Int} {k:Nat} (h:k<zs.length):sA (zs.take (k+1))=sA (zs.take k)+zs.getD k 0:=by
 rw[List.take_succ_eq_append_getElem h,sA_append,List.getD_eq_getElem?_getD,List.getElem?_eq_getElem h];simp[sA]
theorem take_sB {zs:List Int} {k:Nat} (h:k<zs.length):sB (zs.take (k+1))=sB (zs.take k)+sA (zs.take (k+1)):=by
 rw[take_sA h,List.take_succ_eq_append_getElem h,sB_append,List.getD_eq_getElem?_getD,List.getElem?_eq_getElem h];simp[sB];omega
theorem u32_nat (x:Int):∃ n:Nat,n<4294967296∧IntKind.u32.wrap x=(n:Int)∧(n:Int)=x % 4294967296:=⟨(x % 4294967296).toNat,by omega,by rw[IntKind.wrap_u32'];omega,by omega⟩
theorem rlsum_any (s:ByteArray) (w:World) (hs:s.size≤1000000):Calls Tryz.prog 124 #[.string s] w fun e w'=>e=.returned (.int .u32 (rlS (nums s)))∧Below w.heap.size w w':=by
 have HB:=Yy (Below.refl w.heap.size w);obtain⟨n,hn⟩:∃ n,n=s.size:=⟨_,rfl⟩;have HN:=Yy (show (nums s).length=n by rw[nums_len,hn]);have hlen:s.size=n:=hn.symm;clear hn;go_enter Tryz.func124,Tryz.ntmps124;go_wp2;go_loopw [3,4,8] (fun a b i wr=>∃ (k A B:Nat),k≤n∧i=.int .i64 k∧a=.int .u32 A∧b=.int .u32 B∧A<4294967296∧B<4294967296∧(A:Int)=(sA ((nums s).take k)) % 4294967296∧(B:Int)=(sB ((nums s).take k)) % 4294967296∧Below w.heap.size w wr) (fun _ _ i _=>n - (intOf i).toNat)
 case atStart=>exact⟨0,0,0,Nat.zero_le _,rfl,rfl,rfl,by omega,by omega,by simp[sA],by simp[sB],HB.out⟩
 case round=>
  obtain⟨k,A,B,hk,rfl,rfl,rfl,hA0,hB0,hA,hB,hb⟩:=hrel;have HBB:=Yy hb;by_cases hlt:k<n
  ·have hkl:k<(nums s).length:=by rw[HN.out];exact hlt
   have t1:(k:Int)<(n:Int):=by omega
   have hix:=ix_strR s k hkl k rfl;have dA:=take_sA hkl;have dB:=take_sB hkl;have hz:=byte_at s k
   generalize (nums s).getD k 0=z at *;have f1:IntKind.u32.wrap z=z:=IntWalk.u32_in _ (by omega);obtain⟨A',hA1,f2,hA2⟩:=u32_nat ((A:Int)+z);obtain⟨B',hB1,f3,hB2⟩:=u32_nat ((B:Int)+(A':Int));have HF:Hid ((A':Int)=(sA ((nums s).take (k+1))) % 4294967296∧(B':Int)=(sB ((nums s).take (k+1))) % 4294967296):=Yy ⟨by omega,by omega⟩;clear hA hB dA dB hA2 hB2 hb hkl;go_wp2;go_roundw
   case rel=>exact⟨k+1,A',B',by omega,by go_num,rfl,rfl,hA1,hB1,HF.out.1,HF.out.2,HBB.out⟩
   case measure=>simp[intOf];omega
  ·obtain rfl:k=n:=by omega
   have t1:¬ (k:Int)<(k:Int):=by omega
   have hd:(nums s).take k=nums s:=List.take_of_length_le (by rw[HN.out];exact Nat.le_refl _);rw[hd]at hA hB;have HV:Hid (rlS (nums s)=((65536*(B % 65536)+A % 65536:Nat):Int)):=Yy (by unfold rlS;omega);have HC:=Yy (fun w=>rlchk_any A B w hA0);generalize ((65536*(B % 65536)+A % 65536:Nat):Int)=R at HV HC;clear hA hB hd hb;go_wp2_with fail;refine (HC.out _).mono ?_;rintro e w1 ⟨rfl,hb⟩;have B1:=Yy (HBB.out.trans (hb.mono HBB.out.size));clear hb;go_wp2;go_ret;exact⟨by rw[HV.out];rfl,B1.out⟩
end
end
section
open Go.RowKit WM
def Sg.cs (x:Sg):List Value:=.int .u32 x.wk::x.ds.map (Value.int .u8)
theorem Sg.cs_len {x:Sg} (h:x.Ok):x.cs.length=33:=by simp[Sg.cs,h.2.2.1]
theorem Sg.cs_one (x:Sg) (u:Value) (hu:u∈x.cs):u.oneCell'=true:=by
 rcases List.mem_cons.1 hu with rfl | hu
 ·rfl
 ·obtain⟨z,_,rfl⟩:=List.mem_map.1 hu
  rfl
def KSig:Kind Sg:={ n:=33,pos:=by decide,cs:=Sg.cs,d:=sg0,ok:=fun _ x=>x.Ok,len:=fun h=>Sg.cs_len h,one:=Sg.cs_one,below:=fun h _=>h}
theorem sizeSig (w:World):(sizeOf 122).run Tryz.prog w=.ok 33 w:=by
 simp[sizeOf,go_sem]
 rfl
theorem infoSig:(Tryz.prog.info? 122).map (fun i=>(i.zero,i.size,i.bytes))=some (some (KSig.v ⟨0,List.replicate 32 0⟩),33,36):=by kernel_rfl
theorem zeroSig (w:World):(zeroValue 122).run Tryz.prog w=.ok (KSig.v ⟨0,List.replicate 32 0⟩) w:=by
 obtain⟨i,hi,hz,hs,hb⟩:=info_parts infoSig;simp[zeroValue,typeInfo,hi,hz,Sem.run_bind]
theorem list32 {z:List Int} (h:z.length=32):∃ a0 a1 a2 a3 a4 a5 a6 a7 a8 a9 a10 a11 a12 a13 a14 a15 a16 a17 a18 a19 a20 a21 a22 a23 a24 a25 a26 a27 a28 a29 a30 a31,z=[a0,a1,a2,a3,a4,a5,a6,a7,a8,a9,a10,a11,a12,a13,a14,a15,a16,a17,a18,a19,a20,a21,a22,a23,a24,a25,a26,a27,a28,a29,a30,a31]:=by
 match z,h with
 | [a0,a1,a2,a3,a4,a5,a6,a7,a8,a9,a10,a11,a12,a13,a14,a15,a16,a17,a18,a19,a20,a21,a22,a23,a24,a25,a26,a27,a28,a29,a30,a31],_=>exact⟨a0,a1,a2,a3,a4,a5,a6,a7,a8,a9,a10,a11,a12,a13,a14,a15,a16,a17,a18,a19,a20,a21,a22,a23,a24,a25,a26,a27,a28,a29,a30,a31,rfl⟩
theorem Tta71 {p:Prop} (h:p:=by
  obtain⟨a0,a1,a2,a3,a4,a5,a6,a7,a8,a9,a10,a11,a12,a13,a14,a15,a16,a17,a18,a19,a20,a21,a22,a23,a24,a25,a26,a27,a28,a29,a30,a31,rfl⟩:=list32 h
  kernel_rfl
 ):p:=h
theorem built_list {z:List Int} (h:z.length=32) (n:Int):Tryz.prog.built 122 [(0,.int .u32 n),(1,.agg (bvals z))]=some (KSig.cs ⟨n,z⟩).toArray:=by
 exact Tta71
theorem build_sig {x:Sg} (h:x.ds.length=32) (w:World):(Instr.build 122 #[(0,.int .u32 x.wk),(1,.agg (bvals x.ds))]).run Tryz.prog w=.ok (KSig.v x) w:=run_build w _ _ _ (built_list h x.wk)
theorem sizeSigK (w:World):(sizeOf 122).run Tryz.prog w=.ok KSig.n w:=sizeSig w
theorem nSig:KSig.n≤1000:=by decide
def sgz:Sg:=⟨0,List.replicate 32 0⟩
theorem sgz_ok:sgz.Ok:=by unfold sgz Sg.Ok AllBytes;decide
theorem sig_size {x:Sg} (h:x.Ok):(Tryz.prog.info? 122).map (·.size)=some (KSig.cs x).toArray.size:=by
 obtain⟨i,hi,_,hs,_⟩:=info_parts infoSig;rw[hi,List.size_toArray,show (KSig.cs x).length=33 from Sg.cs_len h,← hs]
 rfl
theorem sig_same {x y:Sg} (hx:x.Ok) (hy:y.Ok):(KSig.cs x).toArray.size=(KSig.cs y).toArray.size:=by
 rw[List.size_toArray,List.size_toArray,show (KSig.cs x).length=33 from Sg.cs_len hx,show (KSig.cs y).length=33 from Sg.cs_len hy]
theorem sig_ones (x:Sg):(KSig.cs x).toArray.all (·.oneCell')=true:=by
 rw[Array.all_eq_true_iff_forall_mem];intro u hu;exact KSig.one x u (by simpa using hu)
theorem byte_ones (x:List Int) (u:Value) (hu:u∈x.map (Value.int .u8)):u.oneCell'=true:=by
 obtain⟨z,_,rfl⟩:=List.mem_map.1 hu
 rfl
def KDig:Kind (List Int):={ n:=32,pos:=by decide,cs:=fun z=>z.map (Value.int .u8),d:=[],ok:=fun _ z=>z.length=32∧AllBytes z,len:=fun h=>(List.length_map _).trans h.1,one:=byte_ones,below:=fun h _=>h}
theorem load_dig {w:World} {b o:Nat} {z:List Int} (h:KDig.at w b o z) (hz:z.length=32):(loadVar 26 ⟨b,o,none⟩).run Tryz.prog w=.ok (.agg (bvals z)) w:=
 Kind.at_load (K:=KDig) h (by show (z.map (Value.int .u8)).length=32;rw[List.length_map,hz]) Tryz.underlying26 rfl (by rw[sizeD];rfl)
end
section
open Go.RowKit WM
structure EnA where
 e:En
 A:Option Addr
 c:Nat
structure LnA where
 z:List Int
 n:Int
 r:Int
 A:Option Addr
 c:Nat
 es:List EnA
structure MnA where
 base:List Int
 A:Option Addr
 c:Nat
 ls:List LnA
def enA0:EnA:=⟨en0,none,0⟩
def lnA0:LnA:=⟨z16m,0,0,none,0,[]⟩
def mnA0:MnA:=⟨z32m,none,0,[]⟩
def LnA.x (x:LnA):Ln:=⟨x.z,x.n,x.r,x.es.map (·.e)⟩
def MnA.m (m:MnA):Mn:=⟨m.base,m.ls.map (·.x)⟩
def EnA.cs (x:EnA):List Value:=.int .i64 x.e.no::.int .i64 x.e.n::.int .i64 x.e.r::.int .i64 x.e.len::(x.e.ds.map (Value.int .u8)++[.slice x.A x.e.bs.length x.c])
def LnA.cs (x:LnA):List Value:=x.z.map (Value.int .u8)++[.int .i64 x.n,.int .i64 x.r,.slice x.A x.es.length x.c]
def MnA.cs (m:MnA):List Value:=m.base.map (Value.int .u8)++[.slice m.A m.ls.length m.c]
def EnA.Ok (w:World) (x:EnA):Prop:=(Lit.int .i64 x.e.no).wf=true∧(Lit.int .i64 x.e.n).wf=true∧(Lit.int .i64 x.e.r).wf=true∧(Lit.int .i64 x.e.len).wf=true∧x.e.ds.length=32∧AllBytes x.e.ds∧KSig.row w x.A x.c x.e.bs
theorem EnA.len {w:World} {x:EnA} (h:x.Ok w):x.cs.length=37:=by simp[EnA.cs,h.2.2.2.2.1]
theorem EnA.one (x:EnA) (u:Value) (hu:u∈x.cs):u.oneCell'=true:=by
 simp only[EnA.cs,List.mem_cons,List.mem_append,List.not_mem_nil,or_false]at hu;rcases hu with rfl | rfl | rfl | rfl | hu | rfl
 ·rfl
 ·rfl
 ·rfl
 ·rfl
 ·exact byte_ones _ u hu
 ·rfl
theorem EnA.below {w w':World} {x:EnA} (h:x.Ok w) (hb:Below w.heap.size w w'):x.Ok w':=⟨h.1,h.2.1,h.2.2.1,h.2.2.2.1,h.2.2.2.2.1,h.2.2.2.2.2.1,Kind.row_below h.2.2.2.2.2.2 hb Nl⟩
def KEn:Kind EnA:={ n:=37,pos:=by decide,cs:=EnA.cs,d:=enA0,ok:=fun w x=>x.Ok w,len:=fun h=>EnA.len h,one:=EnA.one,below:=fun h hb=>EnA.below h hb}
def LnA.Ok (w:World) (x:LnA):Prop:=x.z.length=16∧AllBytes x.z∧(Lit.int .i64 x.n).wf=true∧(Lit.int .i64 x.r).wf=true∧KEn.row w x.A x.c x.es
theorem LnA.len {w:World} {x:LnA} (h:x.Ok w):x.cs.length=19:=by simp[LnA.cs,h.1]
theorem LnA.one (x:LnA) (u:Value) (hu:u∈x.cs):u.oneCell'=true:=by
 simp only[LnA.cs,List.mem_cons,List.mem_append,List.not_mem_nil,or_false]at hu;rcases hu with hu | rfl | rfl | rfl
 ·exact byte_ones _ u hu
 ·rfl
 ·rfl
 ·rfl
theorem LnA.below {w w':World} {x:LnA} (h:x.Ok w) (hb:Below w.heap.size w w'):x.Ok w':=⟨h.1,h.2.1,h.2.2.1,h.2.2.2.1,Kind.row_below h.2.2.2.2 hb Nl⟩
def KLn:Kind LnA:={ n:=19,pos:=by decide,cs:=LnA.cs,d:=lnA0,ok:=fun w x=>x.Ok w,len:=fun h=>LnA.len h,one:=LnA.one,below:=fun h hb=>LnA.below h hb}
def MnA.v (m:MnA):Value:=.agg m.cs.toArray
def MnA.Ok (w:World) (m:MnA):Prop:=m.base.length=32∧AllBytes m.base∧KLn.row w m.A m.c m.ls
theorem MnA.below {w w':World} {m:MnA} (h:m.Ok w) (hb:Below w.heap.size w w'):m.Ok w':=⟨h.1,h.2.1,Kind.row_below h.2.2 hb Nl⟩
theorem MnA.len {w:World} {m:MnA} (h:m.Ok w):m.cs.length=33:=by simp[MnA.cs,h.1]
theorem sizeEn (w:World):(sizeOf 68).run Tryz.prog w=.ok KEn.n w:=by
 simp[sizeOf,go_sem]
 rfl
theorem sizeLn (w:World):(sizeOf 63).run Tryz.prog w=.ok KLn.n w:=by
 simp[sizeOf,go_sem]
 rfl
theorem nEn:KEn.n≤1000:=by decide
theorem nLn:KLn.n≤1000:=by decide
theorem infoEn:(Tryz.prog.info? 68).map (fun i=>(i.zero,i.size,i.bytes))=some (some (KEn.v enA0),37,88):=by kernel_rfl
theorem infoLn:(Tryz.prog.info? 63).map (fun i=>(i.zero,i.size,i.bytes))=some (some (KLn.v lnA0),19,56):=by kernel_rfl
theorem infoMn:(Tryz.prog.info? 29).map (fun i=>(i.zero,i.size,i.bytes))=some (some mnA0.v,33,56):=by kernel_rfl
theorem zeroEn (w:World):(zeroValue 68).run Tryz.prog w=.ok (KEn.v enA0) w:=by
 obtain⟨i,hi,hz,hs,hb⟩:=info_parts infoEn;simp[zeroValue,typeInfo,hi,hz,Sem.run_bind]
theorem zeroLn (w:World):(zeroValue 63).run Tryz.prog w=.ok (KLn.v lnA0) w:=by
 obtain⟨i,hi,hz,hs,hb⟩:=info_parts infoLn;simp[zeroValue,typeInfo,hi,hz,Sem.run_bind]
theorem zeroMn (w:World):(zeroValue 29).run Tryz.prog w=.ok mnA0.v w:=by
 obtain⟨i,hi,hz,hs,hb⟩:=info_parts infoMn;simp[zeroValue,typeInfo,hi,hz,Sem.run_bind]
theorem load_en {w:World} {b o:Nat} {x:EnA} (h:KEn.at w b o x) (hx:x.Ok w):(loadVar 68 ⟨b,o,none⟩).run Tryz.prog w=.ok (KEn.v x) w:=
 Kind.at_load h (EnA.len hx) Tryz.underlying68 rfl (by obtain⟨i,hi,_,hs,_⟩:=info_parts infoEn;rw[hi];exact congrArg some hs)
theorem load_ln {w:World} {b o:Nat} {x:LnA} (h:KLn.at w b o x) (hx:x.Ok w):(loadVar 63 ⟨b,o,none⟩).run Tryz.prog w=.ok (KLn.v x) w:=
 Kind.at_load h (LnA.len hx) Tryz.underlying63 rfl (by obtain⟨i,hi,_,hs,_⟩:=info_parts infoLn;rw[hi];exact congrArg some hs)
theorem en_row {w:World} {A:Option Addr} {c:Nat} {xs:List EnA} (h:KEn.row w A c xs) (h0:0<xs.length):∃ b off,A=some ⟨b,off,none⟩∧b<w.heap.size∧(∀ i,i<xs.length→KEn.at w b (off+i*37) (xs.getD i enA0))∧∀ (i:Nat),i<xs.length→∀ (I:Int),I=i→∀ (X:World),(Instr.indexAt 61 (.slice (some ⟨b,off,none⟩) xs.length c) (.int .i64 I)).run Tryz.prog X=.ok (.pointer (some ⟨b,off+i*37,none⟩)) X:=by
 obtain⟨b,off,hA,hb,hc⟩:=h.2.2.2.1 h0;exact⟨b,off,hA,hb,hc,fun i hi I e X=>Kind.ix (K:=KEn) (P:=Tryz.prog) (ts:=61) Tryz.underlying61 (fun w=>sizeEn w) hi I e X⟩
theorem ln_row {w:World} {A:Option Addr} {c:Nat} {xs:List LnA} (h:KLn.row w A c xs) (h0:0<xs.length):∃ b off,A=some ⟨b,off,none⟩∧b<w.heap.size∧(∀ i,i<xs.length→KLn.at w b (off+i*19) (xs.getD i lnA0))∧∀ (i:Nat),i<xs.length→∀ (I:Int),I=i→∀ (X:World),(Instr.indexAt 27 (.slice (some ⟨b,off,none⟩) xs.length c) (.int .i64 I)).run Tryz.prog X=.ok (.pointer (some ⟨b,off+i*19,none⟩)) X:=by
 obtain⟨b,off,hA,hb,hc⟩:=h.2.2.2.1 h0;exact⟨b,off,hA,hb,hc,fun i hi I e X=>Kind.ix (K:=KLn) (P:=Tryz.prog) (ts:=27) Tryz.underlying27 (fun w=>sizeLn w) hi I e X⟩
end
end Go.Proofs.YtnlhkpmgbpfjmaaGreatDoor
