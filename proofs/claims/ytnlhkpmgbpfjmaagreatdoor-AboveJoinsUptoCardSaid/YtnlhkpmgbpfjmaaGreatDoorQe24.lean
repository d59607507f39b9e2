import Derived.Test.YtnlhkpmgbpfjmaaGreatDoorQe20
/- What functions answer, part 24. -/
namespace Go.Proofs.YtnlhkpmgbpfjmaaGreatDoor
set_option linter.unusedVariables false
set_option linter.unusedSimpArgs false
set_option maxHeartbeats 16000000
set_option maxRecDepth 100000
section
open Go.RowKit WM
theorem build_st0P (w:World):(Instr.build 33 #[]).run Tryz.prog w=.ok (.agg #[.int .i64 0,.int .i64 0]) w:=run_build w _ _ _ (by kernel_rfl)
def hasP (R:Rc):Bool:=!decide (R.n=0∧R.r=0) || decide (0<R.fs.length)
def mayP (R:Rc):Bool:=hasP R && may R.n R.r && (decide (R.fs.length=0) || (aliv R).may)
theorem fieldsOf_any (x:RcA) (w:World) (h:x.R.z.length=16):Calls Tryz.prog 69 #[.agg x.cells] w fun e w'=>e=.returned (.agg (RcA.cells (⟨aliv x.R,x.A,x.c⟩:RcA)))∧Below w.heap.size w w':=by
 have X1:=(XAt.new w h).old (.cells rcA0.cells 36);have L4:=Yy X1.load_id;have c18:=X1.c18;have YL:Hid ((⟨aliv x.R,x.A,x.c⟩:RcA).R.z.length=16):=Yy h;have HBZ:=Yy (build_zf (z:=x.R.z) h);have BW:=Yy ((Below.refl w.heap.size w).alloc Nl (.cells x.cells 36));have hz:∀ w:World,(zeroValue 36).run Tryz.prog w=.ok (.agg rcA0.cells) w:=zeroRec;clear X1 h;go_enter Tryz.func69,Tryz.ntmps69;go_wp2_with (first | ((with_reducible refine YyL 31 (.tmp 3) ⟨w.heap.size,0,none⟩ L4.out ?_ ?_ ?_);rfl;rfl) | ((with_reducible refine wpList_build_by (o:=⟨some 7,.build 36 #[(0,.tmp 4),(2,.tmp 6)],_,_,_,_⟩) ?_ 36 #[(0,.tmp 4),(2,.tmp 6)] ?_ #[(0,.agg (bvals x.R.z)),(2,.slice x.A x.R.fs.length x.c)] ?_ _ (HBZ.out _ _ _ _) ?_);rfl;rfl;(simp only[List.map_toArray,List.map_cons,List.map_nil];rfl)) | ((with_reducible refine wpList_store_newx (o:=⟨none,.store 36 (.tmp 2) (.tmp 7),_,_,_,_⟩) (w:=(w.alloc (.cells x.cells 36))) ?_ (.tmp 2) (.tmp 7) ?_ (w.heap.size+1) ?_ ?_ (⟨aliv x.R,x.A,x.c⟩:RcA) ?_ YL.out ?_);rfl;rfl;simp;rfl;rfl;intro w2 hb2 hx2 hs2;have B2:=Yy (BW.out.trans (hb2.mono BW.out.size));have X2:=Yy hx2;clear hb2 hx2 hs2));refine bodyPost_ret (v:=.agg (RcA.cells (⟨aliv x.R,x.A,x.c⟩:RcA))) ?_ rfl ?_
 ·exact res_x Tryz.results69 rfl X2.out
 ·exact⟨rfl,B2.out⟩
theorem Tta8 {p:Prop} (h:p:=by
  clear X1 h hn;go_enter Tryz.func67,Tryz.ntmps67;go_wp2_with (first | ((with_reducible refine wpList_build_by (o:=⟨some 5,.build 33 #[],_,_,_,_⟩) ?_ 33 #[] ?_ #[] ?_ _ (build_st0P _) ?_);rfl;rfl;simp) | ((with_reducible refine wpList_neqM (o:=⟨some 6,.binOp .neq 33 (.tmp 4) (.tmp 5) 33,_,_,_,_⟩) ?_ 33 (.tmp 4) (.tmp 5) 33 ?_ (xs:=#[.int .i64 x.R.n,.int .i64 x.R.r]) (ys:=#[.int .i64 0,.int .i64 0]) ?_ ?_ guardStM QE.out ?_);rfl;rfl;rfl;rfl));go_ret;exact⟨rfl,BW.out⟩
 ):p:=h
theorem hasAnyA (x:RcA) (w:World) (h:x.R.z.length=16) (hn:decide (x.R.n=0∧x.R.r=0)=false):Calls Tryz.prog 67 #[.agg x.cells] w fun e w'=>e=.returned (.bool true)∧Below w.heap.size w w':=by
 have X1:=XAt.new w h;have c16:=X1.c16;have c17:=X1.c17;have c18:=X1.c18;have BW:=Yy ((Below.refl w.heap.size w).alloc Nl (.cells x.cells 36));have QE:=Yy (show (Op.equalIn 10000 33 (.agg #[.int .i64 x.R.n,.int .i64 x.R.r]) (.agg #[.int .i64 0,.int .i64 0])).run Tryz.prog (w.alloc (.cells x.cells 36))=.ok false (w.alloc (.cells x.cells 36)) from by rw[eq_st,hn]);exact Tta8
theorem hasAnyB (x:RcA) (w:World) (h:x.R.z.length=16) (hn:decide (x.R.n=0∧x.R.r=0)=true) (hl:x.R.fs.length=0):Calls Tryz.prog 67 #[.agg x.cells] w fun e w'=>e=.returned (.bool false)∧Below w.heap.size w w':=by
 have X1:=XAt.new w h;have c16:=X1.c16;have c17:=X1.c17;have c18:=X1.c18;have BW:=Yy ((Below.refl w.heap.size w).alloc Nl (.cells x.cells 36));have QE:=Yy (show (Op.equalIn 10000 33 (.agg #[.int .i64 x.R.n,.int .i64 x.R.r]) (.agg #[.int .i64 0,.int .i64 0])).run Tryz.prog (w.alloc (.cells x.cells 36))=.ok true (w.alloc (.cells x.cells 36)) from by rw[eq_st,hn]);rw[hl]at c18;exact Tta8
theorem hasAnyC (x:RcA) (w:World) (h:x.R.z.length=16) (hn:decide (x.R.n=0∧x.R.r=0)=true) (hl:0<x.R.fs.length):Calls Tryz.prog 67 #[.agg x.cells] w fun e w'=>e=.returned (.bool true)∧Below w.heap.size w w':=by
 have X1:=XAt.new w h;have c16:=X1.c16;have c17:=X1.c17;have c18:=X1.c18;have BW:=Yy ((Below.refl w.heap.size w).alloc Nl (.cells x.cells 36));have QE:=Yy (show (Op.equalIn 10000 33 (.agg #[.int .i64 x.R.n,.int .i64 x.R.r]) (.agg #[.int .i64 0,.int .i64 0])).run Tryz.prog (w.alloc (.cells x.cells 36))=.ok true (w.alloc (.cells x.cells 36)) from by rw[eq_st,hn]);have hq2:(0:Int)<(x.R.fs.length:Int):=by omega
 exact Tta8
theorem hasAny_any (x:RcA) (w:World) (h:x.R.z.length=16):Calls Tryz.prog 67 #[.agg x.cells] w fun e w'=>e=.returned (.bool (hasP x.R))∧Below w.heap.size w w':=by
 unfold hasP;by_cases hn:x.R.n=0∧x.R.r=0
 ·rw[decide_eq_true hn];by_cases hl:0<x.R.fs.length
  ·rw[decide_eq_true hl];exact hasAnyC x w h (decide_eq_true hn) hl
  ·rw[decide_eq_false hl];exact hasAnyB x w h (decide_eq_true hn) (by omega)
 ·rw[decide_eq_false hn];exact hasAnyA x w h (decide_eq_false hn)
theorem mayAddA (x:RcA) (w:World) (h:RvAt w x) (hh:hasP x.R=false):Calls Tryz.prog 33 #[.agg x.cells] w fun e w'=>e=.returned (.bool false)∧Below w.heap.size w w':=by
 have X1:=Yy (XAt.new w h.len);have L3:=Yy X1.out.load;have BW:=Yy ((Below.refl w.heap.size w).alloc Nl (.cells x.cells 36));have H:=Yy h;have CH:=Yy (fun w=>hasAny_any x w h.len);rw[hh]at CH;clear h hh;go_enter Tryz.func33,Tryz.ntmps33;go_wp2_with (first | ((with_reducible refine YyL 36 (.tmp 1) ⟨w.heap.size,0,none⟩ L3.out ?_ ?_ ?_);rfl;rfl));refine (CH.out _).mono ?_;rintro e w1 ⟨rfl,hb⟩;have B2:=Yy (BW.out.trans (hb.mono BW.out.size));clear hb;go_wp2;go_ret;exact⟨rfl,B2.out⟩
theorem mayAddB (x:RcA) (w:World) (h:RvAt w x) (hh:hasP x.R=true) (hm:may x.R.n x.R.r=false):Calls Tryz.prog 33 #[.agg x.cells] w fun e w'=>e=.returned (.bool false)∧Below w.heap.size w w':=by
 have X1:=Yy (XAt.new w h.len);have L3:=Yy X1.out.load;have BW:=Yy ((Below.refl w.heap.size w).alloc Nl (.cells x.cells 36));have H:=Yy h;have CH:=Yy (fun w=>hasAny_any x w h.len);rw[hh]at CH;have CM:=Yy (may_any x.R.n x.R.r);unfold st at CM;rw[hm]at CM;clear h hh hm;go_enter Tryz.func33,Tryz.ntmps33;go_wp2_with (first | ((with_reducible refine YyL 36 (.tmp 1) ⟨w.heap.size,0,none⟩ L3.out ?_ ?_ ?_);rfl;rfl));refine (CH.out _).mono ?_;rintro e w1 ⟨rfl,hb⟩;have X2:=Yy (X1.out.below hb X1.out.lt);have B2:=Yy (BW.out.trans (hb.mono BW.out.size));clear hb;have c16:=X2.out.c16;have c17:=X2.out.c17;go_wp2_with fail;clear c16 c17;refine (CM.out _).mono ?_;rintro e w2 ⟨rfl,hb⟩;have B3:=Yy (B2.out.trans (hb.mono B2.out.size));clear hb;go_wp2;go_ret;exact⟨rfl,B3.out⟩
theorem mayAddC (x:RcA) (w:World) (h:RvAt w x) (hh:hasP x.R=true) (hm:may x.R.n x.R.r=true) (hl:x.R.fs.length=0):Calls Tryz.prog 33 #[.agg x.cells] w fun e w'=>e=.returned (.bool true)∧Below w.heap.size w w':=by
 have X1:=Yy (XAt.new w h.len);have L3:=Yy X1.out.load;have BW:=Yy ((Below.refl w.heap.size w).alloc Nl (.cells x.cells 36));have H:=Yy h;have CH:=Yy (fun w=>hasAny_any x w h.len);rw[hh]at CH;have CM:=Yy (may_any x.R.n x.R.r);unfold st at CM;rw[hm]at CM;have HL:=Yy hl;clear hl;clear h hh hm;go_enter Tryz.func33,Tryz.ntmps33;go_wp2_with (first | ((with_reducible refine YyL 36 (.tmp 1) ⟨w.heap.size,0,none⟩ L3.out ?_ ?_ ?_);rfl;rfl));refine (CH.out _).mono ?_;rintro e w1 ⟨rfl,hb⟩;have X2:=Yy (X1.out.below hb X1.out.lt);have B2:=Yy (BW.out.trans (hb.mono BW.out.size));clear hb;have c16:=X2.out.c16;have c17:=X2.out.c17;go_wp2_with fail;clear c16 c17;refine (CM.out _).mono ?_;rintro e w2 ⟨rfl,hb⟩;have X3:=Yy (X2.out.below hb X2.out.lt);have B3:=Yy (B2.out.trans (hb.mono B2.out.size));clear hb;have c18:=X3.out.c18;rw[HL.out]at c18;go_wp2;go_ret;exact⟨rfl,B3.out⟩
theorem mayAddD (x:RcA) (w:World) (h:RvAt w x) (hh:hasP x.R=true) (hm:may x.R.n x.R.r=true) (hl:0<x.R.fs.length) (lm:Bool) (hlm:(aliv x.R).may=lm):Calls Tryz.prog 33 #[.agg x.cells] w fun e w'=>e=.returned (.bool lm)∧Below w.heap.size w w':=by
 have X1:=Yy (XAt.new w h.len);have L3:=Yy X1.out.load;have BW:=Yy ((Below.refl w.heap.size w).alloc Nl (.cells x.cells 36));have H:=Yy h;have CH:=Yy (fun w=>hasAny_any x w h.len);rw[hh]at CH;have CM:=Yy (may_any x.R.n x.R.r);unfold st at CM;rw[hm]at CM;have HL:=Yy hl;clear hl;have HLM:=Yy hlm;clear hlm;clear h hh hm;go_enter Tryz.func33,Tryz.ntmps33;go_wp2_with (first | ((with_reducible refine YyL 36 (.tmp 1) ⟨w.heap.size,0,none⟩ L3.out ?_ ?_ ?_);rfl;rfl));refine (CH.out _).mono ?_;rintro e w1 ⟨rfl,hb⟩;have X2:=Yy (X1.out.below hb X1.out.lt);have B2:=Yy (BW.out.trans (hb.mono BW.out.size));clear hb;have c16:=X2.out.c16;have c17:=X2.out.c17;go_wp2_with fail;clear c16 c17;refine (CM.out _).mono ?_;rintro e w2 ⟨rfl,hb⟩;have X3:=Yy (X2.out.below hb X2.out.lt);have B3:=Yy (B2.out.trans (hb.mono B2.out.size));clear hb;have c18:=X3.out.c18;have hq1:¬ ((x.R.fs.length:Int)=0):=by have:=HL.out;omega
 have hq3:((x.R.fs.length:Int) == 0)=false:=by simpa using hq1
 have hq4:¬ x.R.fs=[]:=fun e=>hq1 (by rw[e];rfl);have L17:=Yy X3.out.load;go_wp2_with (first | ((with_reducible refine YyL 36 (.tmp 1) ⟨w.heap.size,0,none⟩ L17.out ?_ ?_ ?_);rfl;rfl));refine (fieldsOf_any x _ H.out.len).mono ?_;rintro e w3 ⟨rfl,hb⟩;have B4:=Yy (B3.out.trans (hb.mono B3.out.size));have CL:=Yy (xmay_any (⟨aliv x.R,x.A,x.c⟩:RcA) w3 ⟨H.out.1,(H.out.below B4.out Nl).2⟩);rw[show (RcA.R (⟨aliv x.R,x.A,x.c⟩:RcA)).may=lm from HLM.out]at CL;clear hb c18;go_wp2_with fail;refine CL.out.mono ?_;rintro e w4 ⟨rfl,hb⟩;have B5:=Yy (B4.out.trans (hb.mono B4.out.size));clear hb;go_wp2;go_ret;exact⟨rfl,B5.out⟩
theorem mayAdd_any (x:RcA) (w:World) (h:RvAt w x):Calls Tryz.prog 33 #[.agg x.cells] w fun e w'=>e=.returned (.bool (mayP x.R))∧Below w.heap.size w w':=by
 unfold mayP;cases hh:hasP x.R with
 | false=>exact mayAddA x w h hh
 | true=>
  cases hm:may x.R.n x.R.r with
  | false=>exact mayAddB x w h hh hm
  | true=>
   by_cases hl:x.R.fs.length=0
   ·rw[decide_eq_true hl];exact mayAddC x w h hh hm hl
   ·rw[decide_eq_false hl];exact mayAddD x w h hh hm (by omega) _ rfl
theorem halves_any (x:RcA) (w:World):Calls Tryz.prog 34 #[.agg x.cells] w fun e w'=>
  e=.returned (.func (.func 70) #[] #[.pointer (some ⟨w.heap.size,0,none⟩)])∧w'=w.alloc (.cells x.cells 36):=by
 go_enter Tryz.func34,Tryz.ntmps34;go_wp2;go_ret;exact⟨rfl,rfl⟩
theorem parts_any (b:Bk) (m:MnA) (w:World):Calls Tryz.prog 40 #[.agg #[.slice b.A b.xs.length b.c],m.v] w fun e w'=>
  e=.returned (.func (.func 75) #[] #[.pointer (some ⟨w.heap.size,0,none⟩),.pointer (some ⟨w.heap.size+1,0,none⟩)])∧w'=(w.alloc (.cells #[.slice b.A b.xs.length b.c] 24)).alloc (.cells m.cs.toArray 29):=by
 rw[show m.v=.agg m.cs.toArray from rfl];go_enter Tryz.func40,Tryz.ntmps40;go_wp2;go_ret;exact⟨by simp,rfl⟩
end
section
open Go.RowKit WM
theorem lsOk_allA:∀ {ls:List Ln} {p:Option (List Int)},lsOk p ls=true→∀ x∈ls,lnOk x=true
 | [],_,_,x,hx=>by cases hx
 | y::ls,p,h,x,hx=>by
  rw[lsOk,Bool.and_eq_true,Bool.and_eq_true]at h;rcases List.mem_cons.1 hx with rfl | hx
  ·exact h.1.1
  ·exact lsOk_allA h.2 x hx
theorem ldead_may {m:Mn} (h:mmay m=true) (z:List Int):may (ldead m z).1 (ldead m z).2=true:=by
 unfold mmay at h;rw[Bool.and_eq_true]at h;unfold ldead;cases hl:lfind m.ls z with
 | none=>exact may_zeroA
 | some x=>
  have h1:=lsOk_allA h.1 x (List.mem_of_find?_eq_some hl);unfold lnOk at h1;simp only[Bool.and_eq_true]at h1;exact h1.1.1
theorem esOk_few:∀ {es:List En} {n r last:Int},esOk n r last es=true→last≤7→(es.length:Int)+last≤7∧∀ e∈es,e.bs.length≤25
 | [],_,_,_,_,h=>⟨by simpa using h,fun e he=>by cases he⟩
 | e::es,n,r,last,h,hl=>by
  rw[esOk,Bool.and_eq_true]at h;have h1:=h.1;unfold enOk at h1;simp only[Bool.and_eq_true,decide_eq_true_eq]at h1;obtain⟨⟨_,h2,h3,h4,h5⟩,h6⟩:=h1;obtain⟨k1,k2⟩:=esOk_few h.2 (by omega);refine⟨by rw[List.length_cons];omega,fun x hx=>?_⟩;rcases List.mem_cons.1 hx with rfl | hx
  ·split at h6
   ·simp only[decide_eq_true_eq]at h6;omega
   ·simp only[decide_eq_true_eq]at h6;omega
  ·exact k2 x hx
theorem mmay_bd {m:MnA} (h:mmay m.m=true):∀ x∈m.ls,x.es.length≤1000000∧∀ e∈x.es,e.e.bs.length≤1000000:=fun x hx=>by
 unfold mmay at h;rw[Bool.and_eq_true]at h;have h1:=lsOk_allA h.1 x.x (List.mem_map.2 ⟨x,hx,rfl⟩);unfold lnOk at h1;simp only[Bool.and_eq_true]at h1;obtain⟨k1,k2⟩:=esOk_few h1.2 (by omega);have hl:(LnA.x x).es.length=x.es.length:=by show (x.es.map (·.e)).length=_;rw[List.length_map]
 refine⟨by omega,fun e he=>?_⟩;have:=k2 e.e (List.mem_map.2 ⟨e,he,rfl⟩);omega
theorem hasP_part {m:Mn} (h:mmay m=true) (R:Rc):hasP (ppart m R)=true↔(pless R m=true∨pfs R m≠[]):=by
 unfold hasP ppart;dsimp only;cases hp:pless R m
 ·simp[List.length_pos_iff]
 ·simp only[if_true,Bool.or_eq_true,Bool.not_eq_true',decide_eq_false_iff_not,true_or,iff_true];refine .inl fun h0=>?_;unfold pless at hp;have h1:=stLess_iff.1 hp;have h2:=may_iff.1 (ldead_may h R.z);omega
theorem apart_if {m:Mn} (h:mmay m=true) (R:Rc):apart m R=if hasP (ppart m R)=true then some (ppart m R) else none:=by
 unfold apart;by_cases hh:hasP (ppart m R)=true
 ·rw[if_pos hh,if_pos ((hasP_part h R).1 hh)]
 ·rw[if_neg hh,if_neg (fun h2=>hh ((hasP_part h R).2 h2))]
theorem parts_take {m:Mn} (hm:mmay m=true) {xs:List RcA} {k:Nat} (h:k<xs.length):((xs.take (k+1)).map (·.R)).filterMap (apart m)=((xs.take k).map (·.R)).filterMap (apart m)++(if hasP (ppart m (xs.getD k rcA0).R)=true then [ppart m (xs.getD k rcA0).R] else []):=by
 rw[List.take_succ_eq_append_getElem h,List.map_append,List.filterMap_append,List.getD_eq_getElem?_getD,List.getElem?_eq_getElem h]
 congr 1
 simp only[List.map_cons,List.map_nil,Option.getD_some];by_cases hh:hasP (ppart m xs[k].R)=true
 ·rw[if_pos hh,List.filterMap_cons_some (by rw[apart_if hm,if_pos hh]),List.filterMap_nil]
 ·rw[if_neg hh,List.filterMap_cons_none (by rw[apart_if hm,if_neg hh]),List.filterMap_nil]
theorem parts_few {m:Mn} {xs:List RcA} (k:Nat):(((xs.take k).map (·.R)).filterMap (apart m)).length≤k:=by
 refine Nat.le_trans (List.length_filterMap_le _ _) ?_;rw[List.length_map,List.length_take];omega
end
section
open Go.RowKit WM
section
variable {α:Type} {K:Kind α} {P:Program} {te:TypeId}
theorem flat_lenG {xs:List α} (h:∀ x∈xs,(K.cs x).length=K.n):(xs.flatMap K.cs).length=xs.length*K.n:=by
 induction xs with
 | nil=>simp
 | cons x xs ih=>
  rw[List.flatMap_cons,List.length_append,h x List.mem_cons_self,ih fun y hy=>h y (List.mem_cons_of_mem _ hy),List.length_cons,Nat.succ_mul];omega
theorem storeCells_midG (g o:Nat) (t:TypeId):∀ (vs:List Value) (i:Nat) (cur:Array Value) (w:World),w.heap[g]?=some (.cells cur t (0,0))→o+i+vs.length≤cur.size→(∀ v∈vs,v.oneCell'=true) →
  (storeCells ⟨g,o,none⟩ vs i).run P w=.ok () (w.setRow g (cur.toList.take (o+i)++vs++cur.toList.drop (o+i+vs.length)).toArray)
 | [],i,cur,w,hg,hl,_=>by
  have h1:(cur.toList.take (o+i)++[]++cur.toList.drop (o+i+([]:List Value).length)).toArray=cur:=by simp
  rw[h1];have hlt:g<w.heap.size:=(Array.getElem?_eq_some_iff.1 hg).1;have hv:w.heap[g]=.cells cur t (0,0):=(Array.getElem?_eq_some_iff.1 hg).2;simp only[storeCells];show Result.ok () w=_
  congr 1
  unfold World.setRow;cases w with
  | mk heap tape drawn os output=>
   congr 1
   apply Array.ext
   ·simp
   ·intro k h1 h2;simp only[Array.getElem_modify]
    split
    ·rename_i hk;subst hk;simp at hv;simp[hv]
    ·rfl
 | v::rest,i,cur,w,hg,hl,h1=>by
  have hl':o+i+(rest.length+1)≤cur.size:=hl;have hi:o+i<cur.size:=by omega
  have hadd:(⟨g,o,none⟩:Addr).add i=⟨g,o+i,none⟩:=by rw[Addr.add_lit]
  have hcell:w.cell? ⟨g,o+i,none⟩=some cur[o+i]:=by simp[World.cell?,hg,hi]
  have hfro:w.frozen? ⟨g,o+i,none⟩=false:=by simp[World.frozen?,hg]
  have hst:(store ((⟨g,o,none⟩:Addr).add i) v).run P w=.ok () (w.setRow g (cur.setIfInBounds (o+i) v)):=by
   rw[hadd,run_store P w _ v _ (h1 v (by simp)),hcell];simp[hfro,setCell_eq_setRow w g (o+i) cur t (0,0) v hg]
  have ih:=storeCells_midG g o t rest (i+1) (cur.setIfInBounds (o+i) v) (w.setRow g (cur.setIfInBounds (o+i) v)) (setRow_heap w g cur _ t _ hg) (by simp;omega) (fun x hx=>h1 x (by simp[hx]));simp only[storeCells,Sem.run_bind,hst,Result.andThen_ok,ih,setRow_setRow]
  congr 3
  have e1:(cur.setIfInBounds (o+i) v).toList.take (o+(i+1))=cur.toList.take (o+i)++[v]:=by
   rw[Array.toList_setIfInBounds,show o+(i+1)=(o+i)+1 by omega,List.take_add_one,List.take_set_of_le Nl,List.getElem?_set_self (by simpa using hi)]
   rfl
  have e2:(cur.setIfInBounds (o+i) v).toList.drop (o+(i+1)+rest.length)=cur.toList.drop (o+i+(v::rest).length):=by
   rw[Array.toList_setIfInBounds,List.drop_set_of_lt (by omega),List.length_cons]
   congr 1
   omega
  rw[e1,e2];simp
theorem own_atG {w:World} {base n:Nat} {v:Value} {a b:List α} {p:α} {k:Nat} (hk:a.length=k) (h:w.ownsRow base te K.n v n ((a++p::b).flatMap K.cs)) (hl:∀ x∈a++p::b,(K.cs x).length=K.n):
  ∃ g cap,v=.slice (some ⟨g,0,none⟩) n cap∧base≤g∧g<w.heap.size∧k<n∧n≤cap∧K.at w g (k*K.n) p:=by
 have hla:∀ x∈a,(K.cs x).length=K.n:=fun x hx=>hl x (List.mem_append_left _ hx);have hlp:(K.cs p).length=K.n:=hl p (List.mem_append_right _ List.mem_cons_self);have hn:n=a.length+(b.length+1):=by
  have h1:=h.1;rw[flat_lenG hl,List.length_append,List.length_cons]at h1;exact (Nat.eq_of_mul_eq_mul_right K.pos h1).symm
 rcases h.2 with ⟨_,h2⟩ | ⟨g,cap,cur,rfl,hb,hg,hn2,hm,hs,ht⟩
 ·omega
 ·refine⟨g,cap,rfl,hb,(Array.getElem?_eq_some_iff.1 hg).1,by omega,hn2,fun i hi=>?_⟩;rw[cell_of_row w g _ cur _ (0,0) hg];have hlt:k*K.n+i<n*K.n:=by
   have h5:(k+1)*K.n≤n*K.n:=Nat.mul_le_mul_right _ (by omega);rw[Nat.succ_mul]at h5;omega
  have h1:cur[k*K.n+i]?=((a++p::b).flatMap K.cs)[k*K.n+i]?:=by
   rw[← ht,List.getElem?_take,if_pos hlt,Array.getElem?_toList]
  rw[h1,List.flatMap_append,List.getElem?_append_right (by rw[flat_lenG hla,hk];omega),flat_lenG hla,hk,Nat.add_sub_cancel_left,List.flatMap_cons,List.getElem?_append_left (by rw[hlp];exact hi)]
theorem own_putG {w:World} {base g cap n:Nat} {a b:List α} {p q:α} {k:Nat} (hk:a.length=k) (h:w.ownsRow base te K.n (.slice (some ⟨g,0,none⟩) n cap) n ((a++p::b).flatMap K.cs)) (hl:∀ x∈a++p::b,(K.cs x).length=K.n) (hq:(K.cs q).length=K.n) (hsz:∀ w,(sizeOf te).run P w=.ok K.n w):
  ∃ w',(storeVar te ⟨g,k*K.n,none⟩ (K.v q)).run P w=.ok () w'∧w'.ownsRow base te K.n (.slice (some ⟨g,0,none⟩) n cap) n ((a++q::b).flatMap K.cs)∧w.grownBy w' (some g):=by
 have hla:∀ x∈a,(K.cs x).length=K.n:=fun x hx=>hl x (List.mem_append_left _ hx);have hlp:(K.cs p).length=K.n:=hl p (List.mem_append_right _ List.mem_cons_self);have hlb:∀ x∈b,(K.cs x).length=K.n:=fun x hx=>hl x (List.mem_append_right _ (List.mem_cons_of_mem _ hx));have hlq:∀ x∈a++q::b,(K.cs x).length=K.n:=fun x hx=>by
  rcases List.mem_append.1 hx with hx | hx
  ·exact hla x hx
  ·rcases List.mem_cons.1 hx with rfl | hx
   ·exact hq
   ·exact hlb x hx
 have hn:n=a.length+(b.length+1):=by
  have h1:=h.1;rw[flat_lenG hl,List.length_append,List.length_cons]at h1;exact (Nat.eq_of_mul_eq_mul_right K.pos h1).symm
 rcases h.2 with ⟨h1,_⟩ | ⟨g',cap',cur,h1,hb,hg,hn2,hm,hs,ht⟩
 ·cases h1
 ·simp only[Value.slice.injEq,Option.some.injEq,Addr.mk.injEq,and_true,true_and]at h1;obtain⟨rfl,rfl⟩:=h1;have hnn:n*K.n=k*K.n+K.n+b.length*K.n:=by
   rw[hn,hk,Nat.add_mul,Nat.succ_mul];omega
  have hcur:cur.toList=(a.flatMap K.cs++K.cs p++b.flatMap K.cs)++cur.toList.drop (n*K.n):=by
   have h3:=List.take_append_drop (n*K.n) cur.toList;have h4:cur.toList.take (n*K.n)=(a++p::b).flatMap K.cs:=ht;rw[h4,List.flatMap_append,List.flatMap_cons,← List.append_assoc]at h3;exact h3.symm
  have hcn:n*K.n≤cap*K.n:=Nat.mul_le_mul_right _ hn2;have hst:=storeCells_midG (P:=P) g (k*K.n) te (K.cs q) 0 cur w hg (by rw[hq,hs];omega) (fun v hv=>K.one q v hv);refine⟨w.setRow g (cur.toList.take (k*K.n+0)++K.cs q++cur.toList.drop (k*K.n+0+(K.cs q).length)).toArray,?_,⟨(by rw[flat_lenG hlq,hn,List.length_append,List.length_cons]),.inr ⟨g,cap,_,rfl,hb,setRow_heap _ _ _ _ _ _ hg,hn2,hm,?_,?_⟩⟩,⟨rfl,rfl,rfl,by simp,fun i _ hi=>setRow_other w g i _ (fun e=>hi (by rw[e]))⟩⟩
  ·unfold storeVar;rw[Sem.run_bind,hsz];simp only[Result.andThen_ok];rw[if_neg (by show ¬ (K.cs q).toArray.size≠K.n;rw[List.size_toArray,hq];exact fun h=>h rfl)];exact hst
  ·rw[List.size_toArray];simp only[List.length_append,List.length_take,List.length_drop,Array.length_toList,hq,hs];omega
  ·have e1:cur.toList.take (k*K.n)=a.flatMap K.cs:=by
    rw[hcur,List.append_assoc,List.append_assoc,List.take_append_of_le_length (by rw[flat_lenG hla,hk];exact Nat.le_refl _),List.take_of_length_le (by rw[flat_lenG hla,hk];exact Nat.le_refl _)]
   have e2:cur.toList.drop (k*K.n+K.n)=b.flatMap K.cs++cur.toList.drop (n*K.n):=by
    have hdl:((a.flatMap K.cs++K.cs p)).length=k*K.n+K.n:=by rw[List.length_append,flat_lenG hla,hk,hlp]
    conv=>lhs;rw[hcur,List.append_assoc]
    rw[← hdl,List.drop_left]
   simp only[hq,Nat.add_zero];rw[e1,e2,List.flatMap_append,List.flatMap_cons];have hlen:(a.flatMap K.cs++(K.cs q++b.flatMap K.cs)).length=n*K.n:=by
    simp only[List.length_append,flat_lenG hla,flat_lenG hlb,hq];rw[hk];omega
   have e3:a.flatMap K.cs++K.cs q++(b.flatMap K.cs++cur.toList.drop (n*K.n))=(a.flatMap K.cs++(K.cs q++b.flatMap K.cs))++cur.toList.drop (n*K.n):=by simp only[List.append_assoc]
   rw[e3,← hlen,List.take_left]
theorem exec_store_run {o:Oper} {ρ:Operand→Value} {w w':World} (ty:TypeId) (x y:Operand) (ho:o.op=.store ty x y) (ad:Addr) (hx:ρ x=.pointer (some ad)) {v:Value} (hy:ρ y=v) (h:(storeVar ty ad v).run P w=.ok () w'):(execOp ρ o).run P w=.ok .skip w':=by
 unfold execOp;simp only[ho,hx,hy,Instr.storeAt,Instr.sureAddr,Sem.run_bind,Sem.run_pure,Result.andThen_ok,h]
theorem step_store_G {ops:Array Oper} {o:Oper} {a:Act} {KK:Act→World→Prop} {Q:Exit→Act→World→Prop} {E:Prop} {X X':World} (hgd:o.guard=none) (ty:TypeId) (x y:Operand) (hop:o.op=.store ty x y) (ad:Addr) (v:Value) (hx:a.eval x=.pointer (some ad)) (hy:a.eval y=v) (hst:(storeVar ty ad v).run P X=.ok () X')
  (h:KK (a.put o.dst undef) X'):if Region.wanted o (yielded ops a.tmps)=true then Oper.wp P o a X KK Q else E:=by
 have hw:Region.wanted o (yielded ops a.tmps)=true:=by simp[Region.wanted,hgd]
 rw[if_pos hw];unfold Oper.wp;rw[exec_store_run ty x y hop ad hx hy hst];exact h
def CloneP (K:Kind α) (te:TypeId) (w:World) (xs:List α) (e:Ending) (w':World):Prop:=∃ v,e=.returned v∧w'.ownsRow w.heap.size te K.n v xs.length (xs.flatMap K.cs)∧Below w.heap.size w w'
end
end
section
open Go.RowKit WM
theorem Tta37 {p:Prop} (h:p:=by
  go_ret;exact⟨v2,rfl,by have h:=ho2;rw[Nat.zero_add,List.nil_append,← HL.out]at h;exact h,HB.out.grown hg2 (by simp) (fun g hg=>own_base HO.out hg)⟩
 ):p:=h
theorem sclone_any (A:Option Addr) (len c:Nat) (xs:List Sg) (w:World) (hl:xs.length=len) (h:KSig.row w A c xs) (hs:len≤1000000):
  Calls Tryz.prog 92 #[.slice A len c] w (CloneP KSig 122 w xs):=by
 cases A with
 | none=>
  obtain⟨h1,h2,h3,_⟩:=h;have hc:=h3 rfl;subst hc;have hn:xs=[]:=List.eq_nil_of_length_eq_zero (by omega);subst hn;simp at hl;subst hl;have HP:Hid (CloneP KSig 122 w [] (.returned (.slice none 0 0)) w):=Yy ⟨_,rfl,World.ownsRow_nil _ _ _ _,Below.refl _ _⟩;have heq:(binOp .eql 66 (.slice none 0 0) (.slice none 0 0)).run Tryz.prog w=.ok (.bool true) w:=run_eql_slice_nil w _ 122 none 0 0 Tryz.underlying66;go_enter Tryz.func92,Tryz.ntmps92;go_wp2;go_ret;exact HP.out
 | some ad=>
  obtain⟨i0,hi,hz0,hz1,hz2⟩:=info_parts infoSig;have ho:=World.ownsRow_made (base:=w.heap.size) (size:=KSig.n) (e:=122) w #[] 0 Nl (by decide) rfl;have HA:=Yy (Kind.row_below h ((Below.refl w.heap.size w).alloc Nl (.cells #[] 122)) Nl);have HL:=Yy hl;have HB:=Yy ((Below.refl w.heap.size w).alloc Nl (.cells #[] 122));have HO:=Yy ho;have heq:(binOp .eql 66 (.slice (some ad) len c) (.slice none 0 0)).run Tryz.prog w=.ok (.bool false) w:=run_eql_slice_nil w _ 122 (some ad) len c Tryz.underlying66;clear h hl ho;go_enter Tryz.func92,Tryz.ntmps92;go_wp2_with (at_builtin;refine wpList_append_K (K:=KSig) _ rfl _ _ 66 rfl w.heap.size 122 i0 _ 36 Tryz.underlying66 hi hz0 hz1 hz2 (by decide) (by omega) _ 0 [] rfl HO.out (some ad) len c xs rfl HA.out HL.out (by omega) (by simp) ?_;intro v2 w2 ho2 hg2);exact Tta37
theorem eclone_any (A:Option Addr) (len c:Nat) (xs:List EnA) (w:World) (hl:xs.length=len) (h:KEn.row w A c xs) (hs:len≤1000000):
  Calls Tryz.prog 61 #[.slice A len c] w (CloneP KEn 68 w xs):=by
 cases A with
 | none=>
  obtain⟨h1,h2,h3,_⟩:=h;have hc:=h3 rfl;subst hc;have hn:xs=[]:=List.eq_nil_of_length_eq_zero (by omega);subst hn;simp at hl;subst hl;have HP:Hid (CloneP KEn 68 w [] (.returned (.slice none 0 0)) w):=Yy ⟨_,rfl,World.ownsRow_nil _ _ _ _,Below.refl _ _⟩;have heq:(binOp .eql 61 (.slice none 0 0) (.slice none 0 0)).run Tryz.prog w=.ok (.bool true) w:=run_eql_slice_nil w _ 68 none 0 0 Tryz.underlying61;go_enter Tryz.func61,Tryz.ntmps61;go_wp2;go_ret;exact HP.out
 | some ad=>
  obtain⟨i0,hi,hz0,hz1,hz2⟩:=info_parts infoEn;have ho:=World.ownsRow_made (base:=w.heap.size) (size:=KEn.n) (e:=68) w #[] 0 Nl (by decide) rfl;have HA:=Yy (Kind.row_below h ((Below.refl w.heap.size w).alloc Nl (.cells #[] 68)) Nl);have HL:=Yy hl;have HB:=Yy ((Below.refl w.heap.size w).alloc Nl (.cells #[] 68));have HO:=Yy ho;have heq:(binOp .eql 61 (.slice (some ad) len c) (.slice none 0 0)).run Tryz.prog w=.ok (.bool false) w:=run_eql_slice_nil w _ 68 (some ad) len c Tryz.underlying61;clear h hl ho;go_enter Tryz.func61,Tryz.ntmps61;go_wp2_with (at_builtin;refine wpList_append_K (K:=KEn) _ rfl _ _ 61 rfl w.heap.size 68 i0 _ 88 Tryz.underlying61 hi hz0 hz1 hz2 (by decide) (by omega) _ 0 [] rfl HO.out (some ad) len c xs rfl HA.out HL.out (by omega) (by simp) ?_;intro v2 w2 ho2 hg2);exact Tta37
def enPre (e:En):List Value:=.int .i64 e.no::.int .i64 e.n::.int .i64 e.r::.int .i64 e.len::e.ds.map (Value.int .u8)
theorem en_cs (x:EnA):KEn.cs x=enPre x.e++[.slice x.A x.e.bs.length x.c]:=rfl
theorem enPre_len {e:En} (h:e.ds.length=32):36=(enPre e).length:=by simp[enPre,h]
theorem res_en1 {fn:Func} {p:Tmp} (h:fn.results=#[.cell p 68]) {tmps:Array Value} {w:World} {g:Nat} {x:EnA} (hp:tmps.getD p undef=.pointer (some ⟨g,0,none⟩)) (hs:KEn.blk 68 w g x) (hx:x.Ok w):
  (results fn tmps).run Tryz.prog w=.ok (KEn.v x) w:=by
 exact Tta40
def OwnE (w:World) (e:En) (en:Ending) (w':World):Prop:=∃ y:EnA,en=.returned (KEn.v y)∧y.e=e∧y.Ok w'∧Tag 122 w' y.A∧Below w.heap.size w w'
theorem ownE_any (x:EnA) (w:World) (hx:x.Ok w) (hs:x.e.bs.length≤1000000):Calls Tryz.prog 62 #[KEn.v x] w (OwnE w x.e):=by
 have X0:=Kind.blk_old (Kind.blk_new (K:=KEn) w x 68) (.cells (KEn.cs enA0).toArray 68);have R0:=Kind.blk_new (K:=KEn) (w.alloc (.cells (KEn.cs x).toArray 68)) enA0 68;rw[World.size_alloc]at R0;have B0:=Yy (((Below.refl w.heap.size w).alloc Nl (.cells (KEn.cs x).toArray 68)).alloc (by rw[World.size_alloc];omega) (.cells (KEn.cs enA0).toArray 68));have k36:=en_c36 (Kind.at_blk X0) hx.2.2.2.2.1;rw[Nat.zero_add]at k36;have HC:=Yy (sclone_any x.A _ x.c x.e.bs _ rfl (Kind.row_below hx.2.2.2.2.2.2 B0.out Nl) hs);have HX:=Yy hx;have XX:=Yy X0;have RR:=Yy R0;have hz:=zeroEn;rw[show KEn.v enA0=.agg (KEn.cs enA0).toArray from rfl]at hz;have hzne:¬ (KEn.cs enA0).toArray=#[]:=by decide
 have HP36:=Yy (enPre_len hx.2.2.2.2.1);have hv:KEn.v x=.agg (KEn.cs x).toArray:=rfl;rw[hv];have HBK:=Yy (show ∀ X:World,KEn.blk 68 X w.heap.size x→X.heap[w.heap.size]?=some (.cells (enPre x.e++[Value.slice x.A x.e.bs.length x.c]).toArray 68) from fun X h=>h);generalize (KEn.cs x).toArray=E at *;obtain⟨e,A,c⟩:=x;dsimp only at *;clear hx X0 R0 hs hv;go_enter Tryz.func62,Tryz.ntmps62;go_wp2_with fail;refine HC.out.mono ?_;rintro en w1 ⟨v1,rfl,ho1,hb1⟩;have B1:=Yy (B0.out.trans (hb1.mono B0.out.size));have X1:=Yy (Kind.blk_below XX.out hb1 (Kind.blk_lt XX.out));have R1:=Yy (Kind.blk_below RR.out hb1 (Kind.blk_lt RR.out));obtain⟨A1,c1,rfl⟩:=own_slice ho1;have SR:=Yy (Kind.row_own (K:=KSig) ho1 HX.out.2.2.2.2.2.2.2.2.2.2);have ST:=Yy (Tag.own ho1);have g0:=en_c36 (Kind.at_blk X1.out) HX.out.2.2.2.2.1;rw[Nat.zero_add]at g0;have gf:w1.frozen? ⟨w.heap.size,36,none⟩=false:=frozen_of_row _ _ _ _ _ X1.out;have HB2:=grownBy_setCell9 w1 w.heap.size 36 (.slice A1 e.bs.length c1);have X2:=Yy (show KEn.blk 68 (w1.setCell ⟨w.heap.size,36,none⟩ (.slice A1 e.bs.length c1)) w.heap.size ⟨e,A1,c1⟩ from by
  unfold Kind.blk;rw[heap_setCell_same _ _ _ _ _ _ (HBK.out w1 X1.out),show KEn.cs ⟨e,A1,c1⟩=enPre e++[.slice A1 e.bs.length c1] from rfl]
  congr 2
  have h36:=HP36.out;simp[h36])
 have Y2:=Yy (EnA.kept (x:=⟨e,A1,c1⟩) ⟨HX.out.1,HX.out.2.1,HX.out.2.2.1,HX.out.2.2.2.1,HX.out.2.2.2.2.1,HX.out.2.2.2.2.2.1,SR.out⟩ ST.out HB2 (NoT.of X1.out (by decide)));have R2:=Yy (show KEn.blk 68 (w1.setCell ⟨w.heap.size,36,none⟩ (.slice A1 e.bs.length c1)) (w.heap.size+1) enA0 from (Below.heap_setCell _ _ _ _ (by show w.heap.size+1≠w.heap.size;omega)).trans R1.out);have B2:=Yy (B1.out.setCell (p:=⟨w.heap.size,36,none⟩) Nl (.slice A1 e.bs.length c1));have LE:=Yy (load_en (Kind.at_blk X2.out) Y2.out.1);rw[show KEn.v ⟨e,A1,c1⟩=.agg (KEn.cs ⟨e,A1,c1⟩).toArray from rfl]at LE;have SZ:=Yy (en_size Y2.out.1);have SQ:=Yy (show (KEn.cs enA0).toArray.size=(KEn.cs ⟨e,A1,c1⟩).toArray.size by rw[enA0_size,List.size_toArray];exact (EnA.len Y2.out.1).symm);have SO:=Yy (en_ones ⟨e,A1,c1⟩);have GS:=grownBy_setRow (w1.setCell ⟨w.heap.size,36,none⟩ (.slice A1 e.bs.length c1)) (w.heap.size+1) (KEn.cs ⟨e,A1,c1⟩).toArray;have Y3:=Yy (EnA.kept Y2.out.1 Y2.out.2 GS (NoT.of R2.out (by decide)));have X3:=Yy (show KEn.blk 68 ((w1.setCell ⟨w.heap.size,36,none⟩ (.slice A1 e.bs.length c1)).setRow (w.heap.size+1) (KEn.cs ⟨e,A1,c1⟩).toArray) (w.heap.size+1) ⟨e,A1,c1⟩ from setRow_heap _ _ _ _ _ _ R2.out);have B3:=Yy (below_setRow B2.out (show w.heap.size≤w.heap.size+1 by omega) (KEn.cs ⟨e,A1,c1⟩).toArray);have NB:=Yy R2.out;unfold Kind.blk at NB;clear hb1 ho1 HB2 GS k36 hz hzne
 go_wp2_with (first | ((with_reducible refine YyL 68 (.tmp 1) ⟨w.heap.size,0,none⟩ LE.out ?_ ?_ ?_);rfl;rfl) | ((with_reducible refine wpList_store_row (o:=⟨none,.store 68 (.tmp 2) (.tmp 7),_,_,_,_⟩) ?_ 68 (.tmp 2) (.tmp 7) ?_ (w.heap.size+1) (KEn.cs ⟨e,A1,c1⟩).toArray ?_ ?_ 68 _ NB.out SZ.out SQ.out SO.out ?_);rfl;rfl;rfl;rfl));refine bodyPost_ret (v:=KEn.v ⟨e,A1,c1⟩) ?_ rfl ?_
 ·exact res_en1 Tryz.results62 rfl X3.out Y3.out.1
 ·exact⟨_,rfl,rfl,Y3.out.1,Y3.out.2,B3.out⟩
end
section
open Go.RowKit WM
theorem plineIn_any (m:MnA) (z:List Int) (w:World) (h:m.Ok w) (hz16:z.length=16∧AllBytes z):Calls Tryz.prog 60 #[m.v,.agg (bvals z)] w (LinePost w (lineA m.ls z)):=by
 have S0:=LineS.new w m z;obtain⟨w1,hw1⟩:∃ w1,w1=((w.alloc (.cells m.cs.toArray 29)).alloc (.cells (bvals z) 31)).alloc (.cells (KLn.cs lnA0).toArray 63):=⟨_,rfl⟩;rw[← hw1]at S0;have h1:=MnA.below h (S0.below.mono Nl);have HS:=Yy (fun X (hX:Below w1.heap.size w1 X)=>S0.go hX);have HC:=Yy (fun X (hX:Below w1.heap.size w1 X)=>(S0.go hX).a.c32 h1.1);have HI:=Yy (fun X (hX:Below w1.heap.size w1 X)=>Kind.at_blk (S0.go hX).b);have HR:=Yy (fun h0=>ln_row h1.2.2 h0);have HOK:=Yy (fun k (hk:k<m.ls.length)=>show LnA.Ok w1 (m.ls.getD k lnA0) from Kind.row_ok h1.2.2 hk);have HOKW:=Yy (fun k (hk:k<m.ls.length)=>show LnA.Ok w (m.ls.getD k lnA0) from Kind.row_ok h.2.2 hk);have HZ:=Yy hz16;have HB1:=Yy S0.below;have hnb:m.ls.length≤9223372036854775807:=by
  have a1:=h1.2.2.1;have a2:=h1.2.2.2.1;simp only[maxLen]at a2;omega
 have HV:=Yy (show lineA m.ls z=lineA (m.ls.drop 0) z by rw[List.drop_zero]);have c1:=HC.out w1 (Below.refl _ _);have hv:m.v=.agg m.cs.toArray:=rfl;rw[hv];generalize lineA m.ls z=V at *;generalize m.cs.toArray=E at *;obtain⟨base,A,c,ls⟩:=m;dsimp only at *;have HLS:=Yy (fun k (hk:k<ls.length)=>lineA_step z hk);generalize hn:ls.length=n at *;have HN:=Yy hn;have hz:=zeroLn;rw[show KLn.v lnA0=.agg (KLn.cs lnA0).toArray from rfl]at hz;have HB0:=Yy buildLn0;have hzne:¬ (KLn.cs lnA0).toArray=#[]:=by decide
 have HZS:=Yy lnA0_size;have SOZ:=Yy (ln_ones lnA0);clear h h1 S0 hv hn hz16;subst hw1;go_enter Tryz.func60,Tryz.ntmps60;go_wp2;clear c1;generalize ((w.alloc (.cells E 29)).alloc (.cells (bvals z) 31)).alloc (.cells (KLn.cs lnA0).toArray 63)=w1 at *;go_loopw [11] (fun i wr=>∃ k:Nat,k≤n∧i=.int .i64 k∧Below w1.heap.size w1 wr∧V=lineA (ls.drop k) z) (fun i _=>n - (intOf i).toNat)
 case atStart=>exact⟨0,Nat.zero_le _,rfl,Below.refl _ _,HV.out⟩
 case round=>
  obtain⟨k,hk,rfl,hb,hf⟩:=hrel;have HBB:=Yy hb;by_cases hlt:k<n
  ·have t1:(k:Int)<(n:Int):=by omega
   obtain⟨b1,off1,hA1,hb1w,hx1,hi1⟩:=HR.out (by omega);have ix1:=hi1 k hlt k rfl;rw[← hA1]at ix1;have hok:=LnA.below (HOK.out k hlt) (hb.mono Nl);have LL:=Yy (load_ln (Kind.at_same (hx1 k hlt) (hb.block b1 hb1w)) hok);rw[HLS.out k hlt]at hf;have HOW:=Yy (HOKW.out k hlt);generalize ls.getD k lnA0=x at *;rw[show KLn.v x=.agg (KLn.cs x).toArray from rfl]at LL;have hba:Below wr.heap.size wr (wr.alloc (.cells (KLn.cs x).toArray 63)):=(Below.refl _ _).alloc Nl _;have hxb:=Kind.blk_new (K:=KLn) wr x 63;have BX:=Yy (hb.trans (hba.mono hb.size));have L7:=Yy (load_ln (Kind.at_blk hxb) (LnA.below hok hba));rw[show KLn.v x=.agg (KLn.cs x).toArray from rfl]at L7;have LZ:=Yy (load_idM (ln_id (Kind.at_blk hxb) hok.1) hok.1);have LI:=Yy (load_idM (HI.out _ BX.out) HZ.out.1);have HQ:=Yy (show ∀ X,(Op.equalIn 10000 31 (.agg (bvals x.z)) (.agg (bvals z))).run Tryz.prog X=.ok (decide (x.z=z)) X from fun X=>by
    rw[eq_id hok.2.1 HZ.out.2 hok.1 HZ.out.1 X];congr 1;rw[Bool.eq_iff_iff];simp)
   have SZX:=Yy (ln_size hok);have SQX:=Yy (show (KLn.cs lnA0).toArray.size=(KLn.cs x).toArray.size by rw[lnA0_size,List.size_toArray];exact (LnA.len hok).symm);have SOX:=Yy (ln_ones x);have NB:=Yy (HS.out _ BX.out).c;have BB:=Yy (HS.out _ BX.out).below;have XB:=Yy (show KLn.blk 63 ((wr.alloc (.cells (KLn.cs x).toArray 63)).setRow (w.heap.size+1+1) (KLn.cs x).toArray) (w.heap.size+1+1) x from setRow_heap _ _ _ _ _ _ NB.out);have B9:=Yy (below_setRow BB.out (show w.heap.size≤w.heap.size+1+1 by omega) (KLn.cs x).toArray);have OX2:=Yy (show LnA.Ok ((wr.alloc (.cells (KLn.cs x).toArray 63)).setRow (w.heap.size+1+1) (KLn.cs x).toArray) x from LnA.below HOW.out B9.out);unfold Kind.blk at NB;clear hx1 hi1 hA1 hok hb hb1w hba hxb;by_cases he:x.z=z
   ·rw[if_pos he]at hf;rw[decide_eq_true he]at HQ;have HF:=Yy hf;clear hf he;go_wp2_with (first | ((with_reducible refine YyL 63 (.tmp 13) ⟨b1,off1+k*19,none⟩ LL.out ?_ ?_ ?_);rfl;rfl) | ((with_reducible refine wpList_store_new (o:=⟨none,.store 63 (.tmp 7) (.tmp 14),_,_,_,_⟩) ?_ 63 (.tmp 7) (.tmp 14) ?_ ?_ (KLn.cs lnA0).toArray (KLn.cs x).toArray ?_ SZX.out SQX.out SOX.out ?_);rfl;rfl;rfl;rfl) | ((with_reducible refine YyL 31 (.tmp 15) ⟨wr.heap.size,0,none⟩ LZ.out ?_ ?_ ?_);rfl;rfl) | ((with_reducible refine YyL 31 (.tmp 3) ⟨(w.heap.size+1),0,none⟩ LI.out ?_ ?_ ?_);rfl;rfl) | ((with_reducible refine wpList_eqlM (o:=⟨some 18,.binOp .eql 31 (.tmp 16) (.tmp 17) 31,_,_,_,_⟩) ?_ 31 (.tmp 16) (.tmp 17) 31 ?_ ?_ ?_ guardIdM (HQ.out _) ?_);rfl;rfl;rfl;rfl) | ((with_reducible refine YyL 63 (.tmp 7) ⟨wr.heap.size,0,none⟩ L7.out ?_ ?_ ?_);rfl;rfl) | ((with_reducible refine wpList_store_row (o:=⟨none,.store 63 (.tmp 4) (.tmp 19),_,_,_,_⟩) ?_ 63 (.tmp 4) (.tmp 19) ?_ (w.heap.size+1+1) (KLn.cs x).toArray ?_ ?_ 63 _ NB.out SZX.out SQX.out SOX.out ?_);rfl;rfl;rfl;rfl));refine bodyPost_ret (v:=.tuple #[KLn.v x,.bool true]) ?_ rfl ?_
    ·exact res_ln2 Tryz.results60 rfl XB.out OX2.out
    ·rw[HF.out];exact⟨rfl,B9.out⟩
   ·rw[if_neg he]at hf;rw[decide_eq_false he]at HQ;have HF:=Yy hf;clear hf he;go_wp2_with (first | ((with_reducible refine YyL 63 (.tmp 13) ⟨b1,off1+k*19,none⟩ LL.out ?_ ?_ ?_);rfl;rfl) | ((with_reducible refine wpList_store_new (o:=⟨none,.store 63 (.tmp 7) (.tmp 14),_,_,_,_⟩) ?_ 63 (.tmp 7) (.tmp 14) ?_ ?_ (KLn.cs lnA0).toArray (KLn.cs x).toArray ?_ SZX.out SQX.out SOX.out ?_);rfl;rfl;rfl;rfl) | ((with_reducible refine YyL 31 (.tmp 15) ⟨wr.heap.size,0,none⟩ LZ.out ?_ ?_ ?_);rfl;rfl) | ((with_reducible refine YyL 31 (.tmp 3) ⟨(w.heap.size+1),0,none⟩ LI.out ?_ ?_ ?_);rfl;rfl) | ((with_reducible refine wpList_eqlM (o:=⟨some 18,.binOp .eql 31 (.tmp 16) (.tmp 17) 31,_,_,_,_⟩) ?_ 31 (.tmp 16) (.tmp 17) 31 ?_ ?_ ?_ guardIdM (HQ.out _) ?_);rfl;rfl;rfl;rfl));go_roundw
    case rel=>exact⟨k+1,by omega,by go_num,BX.out,HF.out⟩
    case measure=>simp[intOf];omega
  ·obtain rfl:k=n:=by omega
   have t1:¬ (k:Int)<(k:Int):=by omega
   have HF:=Yy (show V=none by rw[hf,List.drop_eq_nil_of_le (by rw[HN.out];exact Nat.le_refl _)];rfl);have NB:=Yy (HS.out _ hb).c;have BB:=Yy (HS.out _ hb).below;have XB:=Yy (show KLn.blk 63 (wr.setRow (w.heap.size+1+1) (KLn.cs lnA0).toArray) (w.heap.size+1+1) lnA0 from setRow_heap _ _ _ _ _ _ NB.out);have B9:=Yy (below_setRow BB.out (show w.heap.size≤w.heap.size+1+1 by omega) (KLn.cs lnA0).toArray);have SZZ:=Yy (ln_size (lnA0_ok wr));unfold Kind.blk at NB;clear hf hb;go_wp2_with (first | ((with_reducible refine wpList_build_at (o:=⟨some 21,.build 63 #[],_,_,_,_⟩) ?_ 63 #[] ?_ #[] ?_ _ (HB0.out _) ?_);rfl;rfl;simp) | ((with_reducible refine wpList_store_row (o:=⟨none,.store 63 (.tmp 4) (.tmp 21),_,_,_,_⟩) ?_ 63 (.tmp 4) (.tmp 21) ?_ (w.heap.size+1+1) (KLn.cs lnA0).toArray ?_ ?_ 63 _ NB.out SZZ.out rfl SOZ.out ?_);rfl;rfl;rfl;rfl));refine bodyPost_ret (v:=.tuple #[KLn.v lnA0,.bool false]) ?_ rfl ?_
   ·exact res_ln2 Tryz.results60 rfl XB.out (lnA0_ok _)
   ·rw[HF.out];exact⟨rfl,B9.out⟩
end
end Go.Proofs.YtnlhkpmgbpfjmaaGreatDoor
