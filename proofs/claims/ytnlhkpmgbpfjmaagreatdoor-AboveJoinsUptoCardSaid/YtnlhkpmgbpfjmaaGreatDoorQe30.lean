import Derived.Test.YtnlhkpmgbpfjmaaGreatDoorQe29
/- What functions answer, part 30. -/
namespace Go.Proofs.YtnlhkpmgbpfjmaaGreatDoor
set_option linter.unusedVariables false
set_option linter.unusedSimpArgs false
set_option maxHeartbeats 16000000
set_option maxRecDepth 100000
section
open Go.RowKit Go.Shelf WM
attribute [local go_sem] Oper.semAt_some
theorem wpListIn_build_want {F:Fence} {n:Nat} {P:Program} {ops:Array Oper} {rest:List Oper} {o:Oper} {a:Act} {w:World} {Q:Exit→Act→World→Prop} (hw:Region.wanted o (yielded ops a.tmps)=true) (t:TypeId) (parts:Array (Nat×Operand)) (hop:o.op=.build t parts) (ps:Array (Nat×Value)) (hp:parts.map (fun x=>(x.1,a.eval x.2))=ps) (v:Value) (hv:(Instr.build t ps).run P w=.ok v w)
  (hK:wpListIn F n P ops Q rest (a.put o.dst v) w):wpListIn F n P ops Q (o::rest) a w:=by
 refine BigFrame.wpListIn_want hw fun K' hK'=>?_;unfold Oper.wpIn;refine⟨by simp[Oper.about,hop],?_⟩;rw[Oper.semAt_plain F _ _ (by rw[hop];intro c hc';cases hc')];rw[exec_build_at t parts hop ps hp hv];exact hK' _ _ hK
theorem wpListIn_neq_want {F:Fence} {n:Nat} {P:Program} {ops:Array Oper} {rest:List Oper} {o:Oper} {a:Act} {w:World} {Q:Exit→Act→World→Prop} (hw:Region.wanted o (yielded ops a.tmps)=true) (t:TypeId) (x y:Operand) (u:TypeId) (hop:o.op=.binOp .neq t x y u) {xs ys:Array Value} (hx:a.eval x=.agg xs) (hy:a.eval y=.agg ys) (hm:P.eqGuardType P.depth t=false) {b:Bool} (h1:(Op.equalIn 10000 t (.agg xs) (.agg ys)).run P w=.ok b w)
  (hK:wpListIn F n P ops Q rest (a.put o.dst (.bool !b)) w):wpListIn F n P ops Q (o::rest) a w:=by
 refine BigFrame.wpListIn_want hw fun K' hK'=>?_;unfold Oper.wpIn;refine⟨by simp[Oper.about,hop],?_⟩;rw[Oper.semAt_plain F _ _ (by rw[hop];intro c hc';cases hc')];rw[exec_neq_at t x y u hop hx hy hm h1];exact hK' _ _ hK
def halvesL (R:Rc):List Rc:=(if R.n=0∧R.r=0 then [] else [adead R])++(if R.fs=[] then [] else [aliv R])
structure HE (w:World) where
 y:RcA
 ok:RvAt w y
def encH {w:World} (x:HE w):Array Value:=#[.agg x.y.cells]
def hR {w:World} (L:List (HE w)):List Rc:=L.map fun x=>x.y.R
def KpH (Bx:Nat) (X Y:World):Prop:=Y.heap[Bx]?=X.heap[Bx]?
def HPost (w:World) (R:Rc) (J Jx:List (HE w)→World→Prop) (e:Ending) (Y:World):Prop:=(∃ v,e=.returned v)∧((∃ ys:List (HE w),hR ys=halvesL R∧J ys Y)∨(∃ pre:List (HE w),hR pre <+: halvesL R∧Jx pre Y))
theorem halves1A (n:Nat) (hn:1≤n) (l Bx:Nat) (x:RcA) (w V:World) (hx:RvAt w x) (J Jx:List (HE w)→World→Prop) (hJ:AbidesFrom V.heap.size J)
  (hY:∀ pre y X,J pre X→pre.length<3→YieldAt Fence.wide (n - 1) Tryz.prog l (encH y) X fun e Y=>(e=.returned (.bool true)∧J (pre++[y]) Y∧KpH Bx X Y)∨(e=.returned (.bool false)∧Jx (pre++[y]) Y))
  (hBx:XAt V Bx x) (h0:J [] V) (hn9:decide (x.R.n=0∧x.R.r=0)=true) (hl:x.R.fs.length=0):
  CallsIn Fence.wide n Tryz.prog 70 #[.func (.yield l) #[] #[],.pointer (some ⟨Bx,0,none⟩)] V (HPost w x.R J Jx):=by
 have HY:=Yy hY;have H0:=Yy h0;have HX:=Yy hx;have XB:=Yy hBx;have ZL:Hid ((⟨aliv x.R,x.A,x.c⟩:RcA).R.z.length=16):=Yy hx.len;have HPOST:=Yy (fun (Y:World) (ys:List (HE w)) (v:Value) (h1:hR ys=halvesL x.R) (h2:J ys Y)=>show HPost w x.R J Jx (.returned v) Y from⟨⟨v,rfl⟩,.inl ⟨ys,h1,h2⟩⟩);generalize hRR:HPost w x.R J Jx=RR at *;have c16:=hBx.c16;have c17:=hBx.c17;have HN:=Yy hn9;have HL:=Yy hl;clear hx hJ hY hBx h0 hRR hl;refine callsIn_of_wp Tryz.func70 rfl trivial ?_ rfl;simp only[Tryz.ntmps70,List.size_toArray,List.length_cons,List.length_nil,Nat.reduceAdd,Nat.reduceSub,Array.replicate_succ,Array.replicate_zero,List.push_toArray,List.append_toArray,List.nil_append,List.cons_append];have QE:=Yy (show (Op.equalIn 10000 33 (.agg #[.int .i64 x.R.n,.int .i64 x.R.r]) (.agg #[.int .i64 0,.int .i64 0])).run Tryz.prog V=.ok true V from by rw[eq_st,HN.out])
 gi_wp2_with (first | ((with_reducible refine wpListIn_build_want ?_ 33 #[] ?_ #[] ?_ _ (build_st0P _) ?_);rfl;rfl;simp) | ((with_reducible refine wpListIn_neq_want ?_ 33 (.tmp 4) (.tmp 5) 33 ?_ (xs:=#[.int .i64 x.R.n,.int .i64 x.R.r]) (ys:=#[.int .i64 0,.int .i64 0]) ?_ ?_ guardStM QE.out ?_);rfl;rfl;rfl;rfl))
 refine⟨(fun f hf=>by cases hf),?_⟩;clear c16 c17;have c18:=XB.out.c18;rw[HL.out]at c18;gi_wp2;exact⟨rfl,.tuple #[],by simp[results,Tryz.results70],HPOST.out _ [] _ (by unfold hR halvesL;rw[if_pos (of_decide_eq_true HN.out),if_pos (List.eq_nil_of_length_eq_zero HL.out)];rfl) H0.out⟩
theorem halves1B (n:Nat) (hn:1≤n) (l Bx:Nat) (x:RcA) (w V:World) (hx:RvAt w x) (J Jx:List (HE w)→World→Prop) (hJ:AbidesFrom V.heap.size J)
  (hY:∀ pre y X,J pre X→pre.length<3→YieldAt Fence.wide (n - 1) Tryz.prog l (encH y) X fun e Y=>(e=.returned (.bool true)∧J (pre++[y]) Y∧KpH Bx X Y)∨(e=.returned (.bool false)∧Jx (pre++[y]) Y))
  (hBx:XAt V Bx x) (h0:J [] V) (hn9:decide (x.R.n=0∧x.R.r=0)=true) (hl:0<x.R.fs.length):
  CallsIn Fence.wide n Tryz.prog 70 #[.func (.yield l) #[] #[],.pointer (some ⟨Bx,0,none⟩)] V (HPost w x.R J Jx):=by
 have HJ:=Yy (fun pre X Y (h:J pre X) (hb:Below X.heap.size X Y)=>abides_belowP hJ h hb);have HY:=Yy hY;have H0:=Yy h0;have HX:=Yy hx;have XB:=Yy hBx;have ZL:Hid ((⟨aliv x.R,x.A,x.c⟩:RcA).R.z.length=16):=Yy hx.len;have HPOST:=Yy (fun (Y:World) (ys:List (HE w)) (v:Value) (h1:hR ys=halvesL x.R) (h2:J ys Y)=>show HPost w x.R J Jx (.returned v) Y from⟨⟨v,rfl⟩,.inl ⟨ys,h1,h2⟩⟩);have HSTOP:=Yy (fun (Y:World) (pre:List (HE w)) (v:Value) (h1:hR pre <+: halvesL x.R) (h2:Jx pre Y)=>show HPost w x.R J Jx (.returned v) Y from⟨⟨v,rfl⟩,.inr ⟨pre,h1,h2⟩⟩);generalize hRR:HPost w x.R J Jx=RR at *;have c16:=hBx.c16;have c17:=hBx.c17;have HN:=Yy hn9;have HL:=Yy hl;clear hx hJ hY hBx h0 hRR hl;refine callsIn_of_wp Tryz.func70 rfl trivial ?_ rfl;simp only[Tryz.ntmps70,List.size_toArray,List.length_cons,List.length_nil,Nat.reduceAdd,Nat.reduceSub,Array.replicate_succ,Array.replicate_zero,List.push_toArray,List.append_toArray,List.nil_append,List.cons_append];have QE:=Yy (show (Op.equalIn 10000 33 (.agg #[.int .i64 x.R.n,.int .i64 x.R.r]) (.agg #[.int .i64 0,.int .i64 0])).run Tryz.prog V=.ok true V from by rw[eq_st,HN.out])
 gi_wp2_with (first | ((with_reducible refine wpListIn_build_want ?_ 33 #[] ?_ #[] ?_ _ (build_st0P _) ?_);rfl;rfl;simp) | ((with_reducible refine wpListIn_neq_want ?_ 33 (.tmp 4) (.tmp 5) 33 ?_ (xs:=#[.int .i64 x.R.n,.int .i64 x.R.r]) (ys:=#[.int .i64 0,.int .i64 0]) ?_ ?_ guardStM QE.out ?_);rfl;rfl;rfl;rfl))
 refine⟨(fun f hf=>by cases hf),?_⟩;clear c16 c17;have c18:=XB.out.c18;have hq2:(0:Int)<(x.R.fs.length:Int):=by have:=HL.out;omega
 have L22:=Yy XB.out.load;have CF:=Yy (fieldsOf_any x V HX.out.len)
 gi_wp2_with (first | ((with_reducible refine wpListIn_load_want ?_ 36 (.tmp 1) ?_ ⟨Bx,0,none⟩ ?_ _ L22.out ?_);rfl;rfl;rfl))
 refine⟨trivial,(callsIn_wide.2 CF.out).mono ?_⟩;rintro e w7 ⟨rfl,hb⟩;have J7:=Yy (HJ.out _ _ _ H0.out hb);obtain⟨fn2,tmps2,assign2,body2,hy2,hR2⟩:=HY.out [] ⟨(⟨aliv x.R,x.A,x.c⟩:RcA),⟨HX.out.1,HX.out.2⟩⟩ w7 J7.out (by simp);unfold encH at hy2;dsimp only at hy2;have HRR2:=Yy hR2;clear hb hR2 c18
 gi_wp2_with fail
 refine HRR2.out.mono ?_;rintro e3 W8 (⟨rfl,hJ8,hk8⟩ | ⟨rfl,hJx8⟩)
 ·have F8:=Yy hJ8;clear hJ8 hk8;gi_wp2;exact⟨rfl,.tuple #[],by simp[results,Tryz.results70],HPOST.out _ _ _ (by unfold hR halvesL;rw[if_pos (of_decide_eq_true HN.out),if_neg (fun e=>by have:=HL.out;rw[e]at this;exact absurd this (by simp))];rfl) F8.out⟩
 ·have F8:=Yy hJx8;clear hJx8;gi_wp2;exact⟨rfl,.tuple #[],by simp[results,Tryz.results70],HSTOP.out _ _ _ ⟨[],(List.append_nil _).trans (by unfold hR halvesL;rw[if_pos (of_decide_eq_true HN.out),if_neg (fun e=>by have:=HL.out;rw[e]at this;exact absurd this (by simp))];rfl)⟩ F8.out⟩
theorem Tta26 {p:Prop} (h:p:=by
  have F3:=Yy hJx3;clear hJx3;gi_wp2;exact⟨rfl,.tuple #[],by simp[results,Tryz.results70],HSTOP.out _ _ _ (by unfold hR halvesL;rw[if_neg (of_decide_eq_false HN.out)];exact List.prefix_append _ _) F3.out⟩
 ):p:=h
theorem halves1C (n:Nat) (hn:1≤n) (l Bx:Nat) (x:RcA) (w V:World) (hx:RvAt w x) (J Jx:List (HE w)→World→Prop) (hJ:AbidesFrom V.heap.size J)
  (hY:∀ pre y X,J pre X→pre.length<3→YieldAt Fence.wide (n - 1) Tryz.prog l (encH y) X fun e Y=>(e=.returned (.bool true)∧J (pre++[y]) Y∧KpH Bx X Y)∨(e=.returned (.bool false)∧Jx (pre++[y]) Y))
  (hBx:XAt V Bx x) (h0:J [] V) (hn9:decide (x.R.n=0∧x.R.r=0)=false) (hl:x.R.fs.length=0):
  CallsIn Fence.wide n Tryz.prog 70 #[.func (.yield l) #[] #[],.pointer (some ⟨Bx,0,none⟩)] V (HPost w x.R J Jx):=by
 have HY:=Yy hY;have H0:=Yy h0;have HX:=Yy hx;have XB:=Yy hBx;have ZL:Hid ((⟨aliv x.R,x.A,x.c⟩:RcA).R.z.length=16):=Yy hx.len;have HBD:=Yy (build_zd (z:=x.R.z) hx.len);have HPOST:=Yy (fun (Y:World) (ys:List (HE w)) (v:Value) (h1:hR ys=halvesL x.R) (h2:J ys Y)=>show HPost w x.R J Jx (.returned v) Y from⟨⟨v,rfl⟩,.inl ⟨ys,h1,h2⟩⟩);have HSTOP:=Yy (fun (Y:World) (pre:List (HE w)) (v:Value) (h1:hR pre <+: halvesL x.R) (h2:Jx pre Y)=>show HPost w x.R J Jx (.returned v) Y from⟨⟨v,rfl⟩,.inr ⟨pre,h1,h2⟩⟩);generalize hRR:HPost w x.R J Jx=RR at *;have c16:=hBx.c16;have c17:=hBx.c17;have HN:=Yy hn9;have HL:=Yy hl;clear hx hJ hY hBx h0 hRR hl;refine callsIn_of_wp Tryz.func70 rfl trivial ?_ rfl;simp only[Tryz.ntmps70,List.size_toArray,List.length_cons,List.length_nil,Nat.reduceAdd,Nat.reduceSub,Array.replicate_succ,Array.replicate_zero,List.push_toArray,List.append_toArray,List.nil_append,List.cons_append];have QE:=Yy (show (Op.equalIn 10000 33 (.agg #[.int .i64 x.R.n,.int .i64 x.R.r]) (.agg #[.int .i64 0,.int .i64 0])).run Tryz.prog V=.ok false V from by rw[eq_st,HN.out]);have L10:=Yy XB.out.load_id;obtain⟨fn,tmps,assign,body,hy,hR1⟩:=HY.out [] ⟨(⟨adead x.R,none,0⟩:RcA),⟨HX.out.1,FsAt.nil _ _ _ (show 0≤maxLen by decide) (fun _=>rfl)⟩⟩ V H0.out (by simp);unfold encH at hy;dsimp only at hy;rw[show (RcA.cells ⟨adead x.R,none,0⟩)=rcells x.R.z x.R.n x.R.r (.slice none 0 0) from rfl]at hy;have HRR:=Yy hR1;clear hR1
 gi_wp2_with (first | ((with_reducible refine wpListIn_build_want ?_ 33 #[] ?_ #[] ?_ _ (build_st0P _) ?_);rfl;rfl;simp) | ((with_reducible refine wpListIn_neq_want ?_ 33 (.tmp 4) (.tmp 5) 33 ?_ (xs:=#[.int .i64 x.R.n,.int .i64 x.R.r]) (ys:=#[.int .i64 0,.int .i64 0]) ?_ ?_ guardStM QE.out ?_);rfl;rfl;rfl;rfl) | ((with_reducible refine wpListIn_load_want ?_ 31 (.tmp 9) ?_ ⟨Bx,0,none⟩ ?_ _ L10.out ?_);rfl;rfl;rfl) | ((with_reducible refine wpListIn_build_want ?_ 36 #[(0,.tmp 10),(1,.tmp 12)] ?_ #[(0,.agg (bvals x.R.z)),(1,.agg #[.int .i64 x.R.n,.int .i64 x.R.r])] ?_ _ (HBD.out _ _ _) ?_);rfl;rfl;(simp only[List.map_toArray,List.map_cons,List.map_nil];rfl)))
 refine HRR.out.mono ?_;clear c16 c17;rintro e2 W3 (⟨rfl,hJ3,hk3⟩ | ⟨rfl,hJx3⟩)
 ·have F3:=Yy hJ3;have X3:=Yy (XB.out.same hk3);clear hJ3 hk3;have c18:=X3.out.c18;rw[HL.out]at c18;gi_wp2;exact⟨rfl,.tuple #[],by simp[results,Tryz.results70],HPOST.out _ ([]++[(⟨(⟨adead x.R,none,0⟩:RcA),⟨HX.out.1,FsAt.nil _ _ _ (show 0≤maxLen by decide) (fun _=>rfl)⟩⟩:HE w)]) _ (by unfold hR halvesL;rw[if_neg (of_decide_eq_false HN.out),if_pos (List.eq_nil_of_length_eq_zero HL.out)];rfl) F3.out⟩
 ·exact Tta26
theorem halves1D (n:Nat) (hn:1≤n) (l Bx:Nat) (x:RcA) (w V:World) (hx:RvAt w x) (J Jx:List (HE w)→World→Prop) (hJ:AbidesFrom V.heap.size J)
  (hY:∀ pre y X,J pre X→pre.length<3→YieldAt Fence.wide (n - 1) Tryz.prog l (encH y) X fun e Y=>(e=.returned (.bool true)∧J (pre++[y]) Y∧KpH Bx X Y)∨(e=.returned (.bool false)∧Jx (pre++[y]) Y))
  (hBx:XAt V Bx x) (h0:J [] V) (hn9:decide (x.R.n=0∧x.R.r=0)=false) (hl:0<x.R.fs.length):
  CallsIn Fence.wide n Tryz.prog 70 #[.func (.yield l) #[] #[],.pointer (some ⟨Bx,0,none⟩)] V (HPost w x.R J Jx):=by
 have HJ:=Yy (fun pre X Y (h:J pre X) (hb:Below X.heap.size X Y)=>abides_belowP hJ h hb);have HY:=Yy hY;have H0:=Yy h0;have HX:=Yy hx;have XB:=Yy hBx;have ZL:Hid ((⟨aliv x.R,x.A,x.c⟩:RcA).R.z.length=16):=Yy hx.len;have HBD:=Yy (build_zd (z:=x.R.z) hx.len);have HPOST:=Yy (fun (Y:World) (ys:List (HE w)) (v:Value) (h1:hR ys=halvesL x.R) (h2:J ys Y)=>show HPost w x.R J Jx (.returned v) Y from⟨⟨v,rfl⟩,.inl ⟨ys,h1,h2⟩⟩);have HSTOP:=Yy (fun (Y:World) (pre:List (HE w)) (v:Value) (h1:hR pre <+: halvesL x.R) (h2:Jx pre Y)=>show HPost w x.R J Jx (.returned v) Y from⟨⟨v,rfl⟩,.inr ⟨pre,h1,h2⟩⟩);generalize hRR:HPost w x.R J Jx=RR at *;have c16:=hBx.c16;have c17:=hBx.c17;have HN:=Yy hn9;have HL:=Yy hl;clear hx hJ hY hBx h0 hRR hl;refine callsIn_of_wp Tryz.func70 rfl trivial ?_ rfl;simp only[Tryz.ntmps70,List.size_toArray,List.length_cons,List.length_nil,Nat.reduceAdd,Nat.reduceSub,Array.replicate_succ,Array.replicate_zero,List.push_toArray,List.append_toArray,List.nil_append,List.cons_append];have QE:=Yy (show (Op.equalIn 10000 33 (.agg #[.int .i64 x.R.n,.int .i64 x.R.r]) (.agg #[.int .i64 0,.int .i64 0])).run Tryz.prog V=.ok false V from by rw[eq_st,HN.out]);have L10:=Yy XB.out.load_id;obtain⟨fn,tmps,assign,body,hy,hR1⟩:=HY.out [] ⟨(⟨adead x.R,none,0⟩:RcA),⟨HX.out.1,FsAt.nil _ _ _ (show 0≤maxLen by decide) (fun _=>rfl)⟩⟩ V H0.out (by simp);unfold encH at hy;dsimp only at hy;rw[show (RcA.cells ⟨adead x.R,none,0⟩)=rcells x.R.z x.R.n x.R.r (.slice none 0 0) from rfl]at hy;have HRR:=Yy hR1
 clear hR1
 gi_wp2_with (first | ((with_reducible refine wpListIn_build_want ?_ 33 #[] ?_ #[] ?_ _ (build_st0P _) ?_);rfl;rfl;simp) | ((with_reducible refine wpListIn_neq_want ?_ 33 (.tmp 4) (.tmp 5) 33 ?_ (xs:=#[.int .i64 x.R.n,.int .i64 x.R.r]) (ys:=#[.int .i64 0,.int .i64 0]) ?_ ?_ guardStM QE.out ?_);rfl;rfl;rfl;rfl) | ((with_reducible refine wpListIn_load_want ?_ 31 (.tmp 9) ?_ ⟨Bx,0,none⟩ ?_ _ L10.out ?_);rfl;rfl;rfl) | ((with_reducible refine wpListIn_build_want ?_ 36 #[(0,.tmp 10),(1,.tmp 12)] ?_ #[(0,.agg (bvals x.R.z)),(1,.agg #[.int .i64 x.R.n,.int .i64 x.R.r])] ?_ _ (HBD.out _ _ _) ?_);rfl;rfl;(simp only[List.map_toArray,List.map_cons,List.map_nil];rfl)))
 refine HRR.out.mono ?_;clear c16 c17;rintro e2 W3 (⟨rfl,hJ3,hk3⟩ | ⟨rfl,hJx3⟩)
 ·have F3:=Yy hJ3;have X3:=Yy (XB.out.same hk3);clear hJ3 hk3;have c18:=X3.out.c18;have hq2:(0:Int)<(x.R.fs.length:Int):=by have:=HL.out;omega
  have L22:=Yy X3.out.load;have CF:=Yy (fieldsOf_any x W3 HX.out.len)
  gi_wp2_with (first | ((with_reducible refine wpListIn_load_want ?_ 36 (.tmp 1) ?_ ⟨Bx,0,none⟩ ?_ _ L22.out ?_);rfl;rfl;rfl))
  refine⟨trivial,(callsIn_wide.2 CF.out).mono ?_⟩;rintro e w7 ⟨rfl,hb⟩;have J7:=Yy (HJ.out _ _ _ F3.out hb);obtain⟨fn2,tmps2,assign2,body2,hy2,hR2⟩:=HY.out ([]++[(⟨(⟨adead x.R,none,0⟩:RcA),⟨HX.out.1,FsAt.nil _ _ _ (show 0≤maxLen by decide) (fun _=>rfl)⟩⟩:HE w)]) ⟨(⟨aliv x.R,x.A,x.c⟩:RcA),⟨HX.out.1,HX.out.2⟩⟩ w7 J7.out (by simp);unfold encH at hy2;dsimp only at hy2;have HRR2:=Yy hR2;clear hb hR2 c18
  gi_wp2_with fail
  refine HRR2.out.mono ?_;rintro e3 W8 (⟨rfl,hJ8,hk8⟩ | ⟨rfl,hJx8⟩)
  ·have F8:=Yy hJ8;clear hJ8 hk8;gi_wp2;exact⟨rfl,.tuple #[],by simp[results,Tryz.results70],HPOST.out _ _ _ (by unfold hR halvesL;rw[if_neg (of_decide_eq_false HN.out),if_neg (fun e=>by have:=HL.out;rw[e]at this;exact absurd this (by simp))];rfl) F8.out⟩
  ·have F8:=Yy hJx8;clear hJx8;gi_wp2;exact⟨rfl,.tuple #[],by simp[results,Tryz.results70],HSTOP.out _ _ _ ⟨[],(List.append_nil _).trans (by unfold hR halvesL;rw[if_neg (of_decide_eq_false HN.out),if_neg (fun e=>by have:=HL.out;rw[e]at this;exact absurd this (by simp))];rfl)⟩ F8.out⟩
 ·exact Tta26
theorem halves_stops (n:Nat) (hn:1≤n) (Bx:Nat) (x:RcA) (w W:World) (hx:RvAt w x) (hBx:XAt W Bx x):
  SeqStopsK Fence.wide n Tryz.prog 70 #[.pointer (some ⟨Bx,0,none⟩)] (encH (w:=w)) (KpH Bx) (fun ys=>hR ys=halvesL x.R) (fun pre=>hR pre <+: halvesL x.R) 3 W:=fun l J Jx V hV hJ _ hY h0=>by
 have hB:=hBx.below hV hBx.lt;show CallsIn Fence.wide n Tryz.prog 70 #[.func (.yield l) #[] #[],.pointer (some ⟨Bx,0,none⟩)] V (HPost w x.R J Jx);by_cases hn9:x.R.n=0∧x.R.r=0
 ·by_cases hl:x.R.fs.length=0
  ·exact halves1A n hn l Bx x w V hx J Jx hJ hY hB h0 (decide_eq_true hn9) hl
  ·exact halves1B n hn l Bx x w V hx J Jx hJ hY hB h0 (decide_eq_true hn9) (by omega)
 ·by_cases hl:x.R.fs.length=0
  ·exact halves1C n hn l Bx x w V hx J Jx hJ hY hB h0 (decide_eq_false hn9) hl
  ·exact halves1D n hn l Bx x w V hx J Jx hJ hY hB h0 (decide_eq_false hn9) (by omega)
end
section
open Go.RowKit Go.Shelf WM
noncomputable def jAll (a:Int×List Rc) (L:List Rc):Int×List Rc:=L.foldl (fun a r=>if a.1=0 then bjE a.2 [r] else a) a
theorem jAll_snoc (a:Int×List Rc) (L:List Rc) (r:Rc):jAll a (L++[r])=if (jAll a L).1=0 then bjE (jAll a L).2 [r] else jAll a L:=by
 unfold jAll;rw[List.foldl_append]
 rfl
theorem jAll_err {a:Int×List Rc} (h:¬ a.1=0):∀ L:List Rc,jAll a L=a
 | []=>rfl
 | r::L=>by
  show jAll (if a.1=0 then bjE a.2 [r] else a) L=a;rw[if_neg h,jAll_err h L]
theorem jAll_pre {a:Int×List Rc} {L M:List Rc} (h:L <+: M) (he:¬ (jAll a L).1=0):jAll a M=jAll a L:=by
 obtain⟨N,rfl⟩:=h;have:jAll a (L++N)=jAll (jAll a L) N:=by unfold jAll;rw[List.foldl_append]
 rw[this,jAll_err he]
theorem jAll_halves (Y:List Rc) (P:Rc):jAll (0,Y) (halvesL P)=addY (addX Y P) P:=by
 unfold halvesL addX addY;by_cases hn:P.n=0∧P.r=0
 ·rw[if_pos hn,if_pos hn,List.nil_append];by_cases hf:P.fs=[]
  ·rw[if_pos hf,if_neg (fun h=>h.2 hf)]
   rfl
  ·rw[if_neg hf,if_pos ⟨rfl,hf⟩]
   rfl
 ·rw[if_neg hn,if_neg hn];by_cases hf:P.fs=[]
  ·rw[if_pos hf,if_neg (fun h=>h.2 hf),List.append_nil]
   rfl
  ·rw[if_neg hf];show (if (bjE Y [adead P]).1=0 then bjE (bjE Y [adead P]).2 [aliv P] else bjE Y [adead P])=_;by_cases h0:(bjE Y [adead P]).1=0
   ·rw[if_pos h0,if_pos ⟨h0,hf⟩]
   ·rw[if_neg h0,if_neg (fun h=>h0 h.1)]
theorem addOk_iff (Y:List Rc) (P:Rc):addOk Y P↔(bmay Y=true∧mayP P=true):=by
 unfold addOk mayP hasP;simp only[Bool.and_eq_true,Bool.or_eq_true,Bool.not_eq_true',decide_eq_false_iff_not,decide_eq_true_eq,List.length_pos_iff,List.length_eq_zero_iff]
 constructor
 ·rintro⟨h1,h2,h3,h4⟩;refine⟨h1,⟨?_,h2⟩,h4⟩;by_cases hn:P.n=0∧P.r=0
  ·exact .inr (fun hf=>h3 ⟨hn.1,hn.2,hf⟩)
  ·exact .inl hn
 ·rintro⟨h1,⟨h3,h2⟩,h4⟩;refine⟨h1,h2,?_,h4⟩;rintro⟨a,b,c⟩;rcases h3 with h3 | h3
  ·exact h3 ⟨a,b⟩
  ·exact h3 c
theorem addE_no {Y:List Rc} {P:Rc} (h:¬ (bmay Y=true∧mayP P=true)):addE Y P=(1,[]):=by unfold addE;rw[if_neg (fun h2=>h ((addOk_iff Y P).1 h2))]
theorem addE_yes {Y Z:List Rc} {P:Rc} (h:bmay Y=true∧mayP P=true) (hj:jAll (0,Y) (halvesL P)=(0,Z)):addE Y P=(0,Z):=by
 unfold addE;rw[if_pos ((addOk_iff Y P).2 h),← jAll_halves,hj,if_pos rfl]
theorem addE_err {Y Z:List Rc} {P:Rc} {e:Int} {L:List Rc} (h:bmay Y=true∧mayP P=true) (hp:L <+: halvesL P) (hj:jAll (0,Y) L=(e,Z)) (he:¬ e=0):addE Y P=(e,[]):=by
 have h1:jAll (0,Y) (halvesL P)=(e,Z):=by rw[jAll_pre hp (by rw[hj];exact he),hj]
 unfold addE;rw[if_pos ((addOk_iff Y P).2 h),← jAll_halves,h1,if_neg he]
def ErAt (w:World) (b:Nat) (e:Int):Prop:=w.heap[b]?=some (.cells #[.int .i64 e] 43)
section
variable {w w':World} {b B:Nat} {e:Int}
theorem ErAt.c0 (h:ErAt w b e):w.cell? ⟨b,0,none⟩=some (.int .i64 e):=by rw[cell_of_row _ _ _ _ _ _ h];rfl
theorem ErAt.fz (h:ErAt w b e):w.frozen? ⟨b,0,none⟩=false:=frozen_of_row _ _ _ _ _ h
theorem ErAt.lt (h:ErAt w b e):b<w.heap.size:=(Array.getElem?_eq_some_iff.1 h).1
theorem ErAt.below (h:ErAt w b e) (hb:Below B w w') (hB:b<B):ErAt w' b e:=(hb.block b hB).trans h
theorem ErAt.same (h:ErAt w b e) (hb:w'.heap[b]?=w.heap[b]?):ErAt w' b e:=hb.trans h
theorem ErAt.new (w:World) (e:Int):ErAt (w.alloc (.cells #[.int .i64 e] 43)) w.heap.size e:=heap_alloc_new w _
theorem ErAt.put (h:ErAt w b e) (u:Int):ErAt (w.setCell ⟨b,0,none⟩ (.int .i64 u)) b u:=by
 unfold ErAt;rw[heap_setCell_same _ _ _ _ _ _ h]
 rfl
theorem ErAt.load (h:ErAt w b e):(loadVar 43 ⟨b,0,none⟩).run Tryz.prog w=.ok (.int .i64 e) w:=by
 have h0:=h.c0;go_simp
theorem res_bkE {fn:Func} {p r:Tmp} (h:fn.results=#[.cell p 24,.cell r 43]) {tmps:Array Value} {w:World} {b c:Nat} {s:Value} {e:Int} (hp:tmps.getD p undef=.pointer (some ⟨b,0,none⟩)) (hr:tmps.getD r undef=.pointer (some ⟨c,0,none⟩)) (hs:BoAt w b s) (hb:ErAt w c e):
  (results fn tmps).run Tryz.prog w=.ok (.tuple #[.agg #[s],.int .i64 e]) w:=by
 have hp':tmps[p]?.getD undef=.pointer (some ⟨b,0,none⟩):=by simpa using hp
 have hr':tmps[r]?.getD undef=.pointer (some ⟨c,0,none⟩):=by simpa using hr
 simp[results,h,hp',hr',asAddr,hs.load,hb.load]
end
def NoCells (w:World) (row:Option Nat):Prop:=∀ r,row=some r→∃ o:Obj,w.heap[r]?=some o∧o.isCells=false
section
variable {w w':World} {row:Option Nat}
theorem NoCells.ne (h:NoCells w row) {b:Nat} {c:Array Value} {t:TypeId} {f:Nat×Nat} (hb:w.heap[b]?=some (.cells c t f)):some b≠row:=fun e=>by
 obtain⟨o,ho,hc⟩:=h b e.symm;rw[hb]at ho;cases ho;cases hc
theorem cell_is {b o:Nat} {u:Value} (h:w.cell? ⟨b,o,none⟩=some u):∃ c t f,w.heap[b]?=some (.cells c t f):=by
 unfold World.cell? at h;dsimp only at h
 split at h
 ·exact⟨_,_,_,by assumption⟩
 ·cases h
theorem BkAt.turned {d:Bk} (h:BkAt w d) (hg:w.grownBy w' row) (hr:NoCells w row):BkAt w' d:=by
 obtain⟨h1,h2,h3,h4,h5⟩:=h;refine⟨h1,h2,h3,fun h0=>?_,fun x hx=>⟨(h5 x hx).1,?_⟩⟩
 ·obtain⟨b,off,hA,hb,hc⟩:=h4 h0;obtain⟨c,t,f,hcell⟩:=cell_is (hc 0 h0).c16;exact⟨b,off,hA,Nat.lt_of_lt_of_le hb hg.size,fun i hi=>(hc i hi).same (hg.block b hb (hr.ne hcell))⟩
 ·obtain⟨k1,k2,k3,k4⟩:=(h5 x hx).2;refine⟨k1,k2,k3,fun h0=>?_⟩;obtain⟨b,off,hA,hb,hc⟩:=k4 h0;obtain⟨c,t,f,hcell⟩:=cell_is (hc 0 h0).1;have hs:=hg.block b hb (hr.ne hcell);refine⟨b,off,hA,Nat.lt_of_lt_of_le hb hg.size,fun i hi=>?_⟩;obtain⟨c0,c1,c2,c3⟩:=hc i hi;exact⟨(World.cell?_of_block (a:=⟨b,_,none⟩) hs).trans c0,(World.cell?_of_block (a:=⟨b,_,none⟩) hs).trans c1,(World.cell?_of_block (a:=⟨b,_,none⟩) hs).trans c2,(World.cell?_of_block (a:=⟨b,_,none⟩) hs).trans c3⟩
theorem BkAt.kept_er {d:Bk} {b:Nat} {e:Int} (h:BkAt w d) (hg:w.grownBy w' (some b)) (hx:ErAt w b e):BkAt w' d:=by
 obtain⟨h1,h2,h3,h4,h5⟩:=h;refine⟨h1,h2,h3,fun h0=>?_,fun x hxx=>⟨(h5 x hxx).1,(h5 x hxx).2.kept' hg fun off h0 e=>?_⟩⟩
 ·exact Tta14
 ·have hF:=(h5 x hxx).2;rw[e]at hF;obtain⟨s,hs⟩:=hF.str h0;rw[cell_of_row _ _ _ _ _ _ hx]at hs;simp at hs
end
structure AS (w:World) (p:Nat) (d:Bk) (e:Int) (X:World):Prop where
 b:Below w.heap.size w X
 r4:BoAt X (w.heap.size+1+1) (.slice none 0 0)
 r5:ErAt X (w.heap.size+1+1+1) 0
 o6:BoAt X p (.slice d.A d.xs.length d.c)
 o7:ErAt X (p+1) e
 dk:BkAt X d
 lt:w.heap.size+1+1+1<p
section
variable {w X Y:World} {p:Nat} {d d':Bk} {e:Int} {row:Option Nat}
theorem AS.below (h:AS w p d e X) (hb:Below X.heap.size X Y):AS w p d e Y:=
 ⟨h.b.trans (hb.mono h.b.size),h.r4.below hb h.r4.lt,h.r5.below hb h.r5.lt,h.o6.below hb h.o6.lt,h.o7.below hb h.o7.lt,h.dk.below hb Nl,h.lt⟩
theorem AS.turned (h:AS w p d e X) (hg:X.grownBy Y row) (hr:NoCells X row) (hB:∀ k,row=some k→w.heap.size≤k):AS w p d e Y:=
 ⟨h.b.grown hg h.b.size hB,h.r4.same (hg.block _ h.r4.lt (hr.ne h.r4)),h.r5.same (hg.block _ h.r5.lt (hr.ne h.r5)),h.o6.same (hg.block _ h.o6.lt (hr.ne h.o6)),h.o7.same (hg.block _ h.o7.lt (hr.ne h.o7)),h.dk.turned hg hr,h.lt⟩
theorem AS.book (h:AS w p d e X) (hd:BkAt X d') (hg:X.grownBy Y (some p)) (ho:BoAt Y p (.slice d'.A d'.xs.length d'.c)):AS w p d' e Y:=by
 have hp:=h.lt;have ne:∀ {q:Nat},q≠p→some q≠some p:=fun h e=>h (Option.some.inj e);exact⟨h.b.grown hg h.b.size (fun k e=>by have:=Option.some.inj e;omega),h.r4.same (hg.block _ h.r4.lt (ne (by omega))),h.r5.same (hg.block _ h.r5.lt (ne (by omega))),ho,h.o7.same (hg.block _ h.o7.lt (ne (by omega))),hd.kept_bo hg h.o6,h.lt⟩
theorem AS.err (h:AS w p d e X) (u:Int):AS w p d u (X.setCell ⟨p+1,0,none⟩ (.int .i64 u)):=by
 have hp:=h.lt;have hg:=grownBy_setCell18 X (p+1) 0 (.int .i64 u);have ne:∀ {q:Nat},q≠p+1→some q≠some (p+1):=fun h e=>h (Option.some.inj e);exact⟨h.b.grown hg h.b.size (fun k e=>by have:=Option.some.inj e;omega),h.r4.same (hg.block _ h.r4.lt (ne (by omega))),h.r5.same (hg.block _ h.r5.lt (ne (by omega))),h.o6.same (hg.block _ h.o6.lt (ne (by omega))),h.o7.put u,h.dk.kept_er hg h.o7,h.lt⟩
end
end
end Go.Proofs.YtnlhkpmgbpfjmaaGreatDoor
