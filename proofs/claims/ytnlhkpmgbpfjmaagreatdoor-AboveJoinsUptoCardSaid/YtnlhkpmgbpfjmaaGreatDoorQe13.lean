import Derived.Test.YtnlhkpmgbpfjmaaGreatDoorQe11
/- What functions answer, part 13. -/
namespace Go.Proofs.YtnlhkpmgbpfjmaaGreatDoor
set_option linter.unusedVariables false
set_option linter.unusedSimpArgs false
set_option maxHeartbeats 16000000
set_option maxRecDepth 100000
section
section
open Go.RowKit WM
theorem lessL_goes:∀ {xs ys zs:List Int},lessL xs ys=true→lessL ys zs=true→lessL xs zs=true
 | _,[],_,h,_=>by simp[lessL]at h
 | _,_::_,[],_,h=>by simp[lessL]at h
 | [],_::_,_::_,_,_=>rfl
 | x::xs,y::ys,z::zs,h1,h2=>by
  rw[lessL]at h1 h2 ⊢;simp only[Bool.or_eq_true,Bool.and_eq_true,decide_eq_true_eq,beq_iff_eq]at h1 h2 ⊢;rcases h1 with h1 | ⟨h1,h1'⟩<;>rcases h2 with h2 | ⟨h2,h2'⟩
  ·exact .inl (by omega)
  ·exact .inl (by omega)
  ·exact .inl (by omega)
  ·exact .inr ⟨by omega,lessL_goes h1' h2'⟩
theorem lessL_not {xs ys:List Int} (h:lessL xs ys=true):lessL ys xs=false:=by
 cases h1:lessL ys xs
 ·rfl
 ·have:=lessL_goes h h1;rw[lessL_self]at this;cases this
theorem lessL_total:∀ {xs ys:List Int},lessL xs ys=false→lessL ys xs=false→xs=ys
 | [],[],_,_=>rfl
 | [],_::_,h,_=>by simp[lessL]at h
 | _::_,[],_,h=>by simp[lessL]at h
 | x::xs,y::ys,h1,h2=>by
  rw[lessL]at h1 h2;simp only[Bool.or_eq_false_iff,Bool.and_eq_false_iff,decide_eq_false_iff_not,beq_eq_false_iff_ne]at h1 h2;obtain⟨a1,a2⟩:=h1;obtain⟨b1,b2⟩:=h2;have e:x=y:=by omega
  subst e;have c1:lessL xs ys=false:=by
   rcases a2 with h | h
   ·exact absurd rfl h
   ·exact h
  have c2:lessL ys xs=false:=by
   rcases b2 with h | h
   ·exact absurd rfl h
   ·exact h
  rw[lessL_total c1 c2]
def CL (a b:Cel):Prop:=(a.n<b.n∨a.n=b.n∧a.r<b.r)∨(a.n=b.n∧a.r=b.r)∧(lessL (SH.sum (nums a.s)) (SH.sum (nums b.s))=true∨SH.sum (nums a.s)=SH.sum (nums b.s)∧lessL (nums a.s) (nums b.s)=true)
theorem cless_iff {a b:Cel}:cless a b=true↔CL a b:=by
 unfold cless CL;generalize SH.sum (nums a.s)=S;generalize SH.sum (nums b.s)=R;generalize nums a.s=P;generalize nums b.s=Q;cases h1:stLess a.n a.r b.n b.r
 ·rw[st_no]at h1;simp only[Bool.false_eq_true,if_false];cases h2:stLess b.n b.r a.n a.r
  ·rw[st_no]at h2;have e:a.n=b.n∧a.r=b.r:=by omega
   simp only[Bool.false_eq_true,if_false];cases h3:lessL S R
   ·simp only[Bool.false_eq_true,if_false];cases h4:lessL R S
    ·have e2:=lessL_total h3 h4;simp only[Bool.false_eq_true,if_false]
     constructor
     ·intro h;exact .inr ⟨e,.inr ⟨e2,h⟩⟩
     ·rintro (h | ⟨_,h | ⟨_,h⟩⟩)
      ·exact absurd h h1
      ·exact absurd h (by simp)
      ·exact h
    ·simp only[if_true]
     constructor
     ·intro h;cases h
     ·rintro (h | ⟨_,h | ⟨h,_⟩⟩)
      ·exact absurd h h1
      ·exact absurd h (by simp)
      ·rw[h,lessL_self]at h4;cases h4
   ·simp only[if_true,true_iff];exact .inr ⟨e,.inl trivial⟩
  ·rw[stLess_iff]at h2;simp only[if_true]
   constructor
   ·intro h;cases h
   ·rintro (h | ⟨h,_⟩)<;>omega
 ·rw[stLess_iff]at h1;simp only[if_true,true_iff];exact .inl h1
theorem cless_goes {a b c:Cel} (h1:cless a b=true) (h2:cless b c=true):cless a c=true:=by
 rw[cless_iff]at h1 h2 ⊢;rcases h1 with h1 | ⟨e1,h1⟩<;>rcases h2 with h2 | ⟨e2,h2⟩
 ·exact .inl (by omega)
 ·exact .inl (by omega)
 ·exact .inl (by omega)
 ·refine .inr ⟨by omega,?_⟩;rcases h1 with h1 | ⟨f1,h1⟩<;>rcases h2 with h2 | ⟨f2,h2⟩
  ·exact .inl (lessL_goes h1 h2)
  ·rw[← f2];exact .inl h1
  ·rw[f1];exact .inl h2
  ·exact .inr ⟨f1.trans f2,lessL_goes h1 h2⟩
theorem cless_not {a b:Cel} (h:cless a b=true):cless b a=false:=by
 cases h1:cless b a
 ·rfl
 ·have:=cless_goes h h1;rw[cless_self]at this;cases this
theorem nums_inj {s t:ByteArray} (h:nums s=nums t):s=t:=by rw[← str_nums s,← str_nums t,h]
theorem cless_total {a b:Cel} (h1:cless a b=false) (h2:cless b a=false):a=b:=by
 have k1:¬ CL a b:=fun h=>by rw[cless_iff.2 h]at h1;cases h1
 have k2:¬ CL b a:=fun h=>by rw[cless_iff.2 h]at h2;cases h2
 unfold CL at k1 k2;have e:a.n=b.n∧a.r=b.r:=by omega
 have e2:SH.sum (nums a.s)=SH.sum (nums b.s):=by
  refine lessL_total ?_ ?_
  ·cases h:lessL (SH.sum (nums a.s)) (SH.sum (nums b.s))
   ·rfl
   ·exact absurd (.inr ⟨e,.inl h⟩) k1
  ·cases h:lessL (SH.sum (nums b.s)) (SH.sum (nums a.s))
   ·rfl
   ·exact absurd (.inr ⟨⟨e.1.symm,e.2.symm⟩,.inl h⟩) k2
 have e3:nums a.s=nums b.s:=by
  refine lessL_total ?_ ?_
  ·cases h:lessL (nums a.s) (nums b.s)
   ·rfl
   ·exact absurd (.inr ⟨e,.inr ⟨e2,h⟩⟩) k1
  ·cases h:lessL (nums b.s) (nums a.s)
   ·rfl
   ·exact absurd (.inr ⟨⟨e.1.symm,e.2.symm⟩,.inr ⟨e2.symm,h⟩⟩) k2
 have e4:=nums_inj e3;clear h1 h2 k1 k2 e2 e3;obtain⟨n,r,s⟩:=a;obtain⟨m,q,t⟩:=b;obtain⟨h1,h2⟩:=e;dsimp only at h1 h2 e4;rw[h1,h2,e4]
theorem cjoin_yes {a b:Cel} (h:cless a b=true):cjoin a b=b:=by rw[cjoin,if_pos h]
theorem cjoin_no {a b:Cel} (h:cless a b=false):cjoin a b=a:=by rw[cjoin,if_neg (by rw[h];decide)]
theorem cjoin_self (a:Cel):cjoin a a=a:=cjoin_no (cless_self a)
theorem cjoin_comm (a b:Cel):cjoin b a=cjoin a b:=by
 cases h1:cless a b
 ·cases h2:cless b a
  ·rw[cless_total h1 h2]
  ·rw[cjoin_no h1,cjoin_yes h2]
 ·rw[cjoin_yes h1,cjoin_no (cless_not h1)]
end
section
open Go.RowKit WM
def omerge:Option Cel→Option Cel→Option Cel
 | none,o=>o
 | some c,none=>some c
 | some c,some d=>some (cjoin c d)
def sl (m:Int×Int) (c:Cel):Bool:=stLess m.1 m.2 c.n c.r
def ofilt (m:Int×Int) (o:Option Cel):Option Cel:=o.filter (sl m)
theorem omerge_none (o:Option Cel):omerge o none=o:=by cases o<;>rfl
theorem omerge_comm (o p:Option Cel):omerge o p=omerge p o:=by
 cases o<;>cases p<;>simp[omerge]
 exact cjoin_comm _ _
theorem omerge_self (o:Option Cel):omerge o o=o:=by
 cases o<;>simp[omerge]
 exact cjoin_self _
theorem ofilt_some {m:Int×Int} {c:Cel} (h:sl m c=true):ofilt m (some c)=some c:=by simp[ofilt,h]
theorem ofilt_no {m:Int×Int} {c:Cel} (h:sl m c=false):ofilt m (some c)=none:=by simp[ofilt,h]
theorem ofilt_none (m:Int×Int):ofilt m none=none:=rfl
def sle (m' m:Int×Int):Prop:=stLess m.1 m.2 m'.1 m'.2=false
theorem sl_mono {m m':Int×Int} (h:sle m' m) {c:Cel} (hc:sl m' c=false):sl m c=false:=by
 unfold sle at h;unfold sl at hc ⊢;rw[st_no]at h hc ⊢;omega
theorem st_cless {c d:Cel} (h:stLess c.n c.r d.n d.r=true):cless c d=true:=by
 rw[cless_iff];exact .inl (stLess_iff.1 h)
theorem ofilt_merge {m m':Int×Int} (h:sle m' m) (o p:Option Cel):ofilt m (omerge (ofilt m' o) p)=ofilt m (omerge o p):=by
 cases o with
 | none=>rfl
 | some c=>
  cases hc:sl m' c with
  | true=>rw[ofilt_some hc]
  | false=>
   rw[ofilt_no hc];have h1:=sl_mono h hc;cases p with
   | none=>simp[omerge,ofilt_none,ofilt_no h1]
   | some d=>
    simp only[omerge];cases hl:cless c d with
    | true=>rw[cjoin_yes hl]
    | false=>
     rw[cjoin_no hl,ofilt_no h1];have h2:stLess c.n c.r d.n d.r=false:=by
      cases hh:stLess c.n c.r d.n d.r
      ·rfl
      ·rw[st_cless hh]at hl;cases hl
     refine ofilt_no ?_;unfold sl at h1 ⊢;rw[st_no]at h1 h2 ⊢;omega
theorem sle_mx1 (a b:Int×Int):sle a (mx a b):=by
 unfold sle;rcases mx_is a b with ⟨h,e⟩ | ⟨h,e⟩
 ·rw[e,st_no];rw[stLess_iff]at h;omega
 ·rw[e,st_no];omega
def toF (φ:Nat→Option Cel):Nat→Nat→List Fld
 | _,0=>[]
 | k,n+1=>(match φ k with | some c=>[⟨(k:Int),c⟩] | none=>[])++toF φ (k+1) n
theorem toF_last (φ:Nat→Option Cel):∀ (n k:Nat),toF φ k (n+1)=toF φ k n++(match φ (k+n) with | some c=>[⟨((k+n:Nat):Int),c⟩] | none=>[])
 | 0,k=>by simp[toF]
 | n+1,k=>by
  rw[toF,toF_last φ n (k+1)]
  conv=>rhs;rw[toF]
  rw[List.append_assoc,show k+1+n=k+(n+1) by omega]
theorem keep_rise (n r:Int) (f:Int→Option Cel):∀ k,keep n r (riseL f k)=toF (fun j=>ofilt (n,r) (f j)) 0 k
 | 0=>rfl
 | k+1=>by
  rw[toF_last,Nat.zero_add,← keep_rise n r f k,riseL];cases hf:f k with
  | none=>simp[ofilt_none]
  | some c=>
   rw[keep_snoc];dsimp only;cases hs:stLess n r c.n c.r
   ·rw[ofilt_no (m:=(n,r)) hs];rfl
   ·rw[ofilt_some (m:=(n,r)) hs];rfl
theorem rfind_append (fs gs:List Fld) (no:Int):rfind (fs++gs) no=(rfind fs no).or (rfind gs no):=by
 unfold rfind;rw[List.find?_append];cases fs.find? fun f=>decide (f.no=no)<;>rfl
theorem rfind_toF (φ:Nat→Option Cel) (no:Int):∀ (n k:Nat),rfind (toF φ k n) no=if (k:Int)≤no∧no<k+n then φ no.toNat else none
 | 0,k=>by rw[if_neg (by omega)];rfl
 | n+1,k=>by
  rw[toF,rfind_append,rfind_toF φ no n (k+1)];by_cases hk:no=k
  ·subst hk;rw[if_neg (by omega),if_pos (by omega),Int.toNat_natCast];cases φ k with
   | none=>rfl
   | some c=>simp[rfind_cons]
  ·have h1:rfind (match φ k with | some c=>[⟨(k:Int),c⟩] | none=>[]) no=none:=by
    cases φ k with
    | none=>rfl
    | some c=>rw[rfind_cons,if_neg (by dsimp only;omega)];rfl
   rw[h1,Option.none_or];by_cases h2:(k:Int)≤no∧no<k+(n+1:Nat)
   ·rw[if_pos h2,if_pos (by omega)]
   ·rw[if_neg h2,if_neg (by omega)]
theorem okFrom_toF {n r:Int} {φ:Nat→Option Cel} (h:∀ k c,φ k=some c→cmay c=true∧stLess n r c.n c.r=true):∀ (j k:Nat) (m:Int),m≤k→k+j≤8→okFrom n r m (toF φ k j)=true
 | 0,_,_,_,_=>rfl
 | j+1,k,m,hm,hk=>by
  rw[toF];cases hf:φ k with
  | none=>exact okFrom_toF h j (k+1) m (by omega) (by omega)
  | some c=>
   obtain⟨h1,h2⟩:=h k c hf;have h3:=okFrom_toF h j (k+1) ((k:Int)+1) (by omega) (by omega);simp only[List.singleton_append,okFrom,h1,h2,h3,Bool.and_true,Bool.and_eq_true,decide_eq_true_eq];omega
theorem rfind_low {n r:Int}:∀ {fs:List Fld} {m no:Int},okFrom n r m fs=true→no<m→rfind fs no=none
 | [],_,_,_,_=>rfl
 | f::fs,m,no,h,hlt=>by
  simp only[okFrom,Bool.and_eq_true,decide_eq_true_eq]at h;rw[rfind_cons,if_neg (by omega)];exact rfind_low h.2 (by omega)
theorem ok_ext {n r n' r':Int}:∀ {fs gs:List Fld} {m:Int},okFrom n r m fs=true→okFrom n' r' m gs=true→(∀ no,m≤no→no<8→rfind fs no=rfind gs no)→fs=gs
 | [],[],_,_,_,_=>rfl
 | [],g::gs,m,_,h2,he=>by
  simp only[okFrom,Bool.and_eq_true,decide_eq_true_eq]at h2;have:=he g.no (by omega) (by omega);rw[rfind_cons,if_pos rfl]at this;cases this
 | f::fs,[],m,h1,_,he=>by
  simp only[okFrom,Bool.and_eq_true,decide_eq_true_eq]at h1;have:=he f.no (by omega) (by omega);rw[rfind_cons,if_pos rfl]at this;cases this
 | f::fs,g::gs,m,h1,h2,he=>by
  simp only[okFrom,Bool.and_eq_true,decide_eq_true_eq]at h1 h2;have e1:=he f.no (by omega) (by omega);have e2:=he g.no (by omega) (by omega);rw[rfind_cons,if_pos rfl,rfind_cons]at e1;rw[rfind_cons,rfind_cons,if_pos rfl]at e2;have hn:f.no=g.no:=by
   by_cases hlt:f.no<g.no
   ·rw[if_neg (by omega),rfind_low h2.2 (by omega)]at e1;cases e1
   ·by_cases hgt:g.no<f.no
    ·rw[if_neg (by omega),rfind_low h1.2 (by omega)]at e2;cases e2
    ·omega
  rw[if_pos hn.symm]at e1;have hfg:f=g:=by
   obtain⟨a,c⟩:=f;obtain⟨b,d⟩:=g;dsimp only at hn e1;rw[hn,Option.some.inj e1]
  have hr:fs=gs:=ok_ext (m:=g.no+1) (hn▸h1.2) h2.2 (fun no h3 h4=>by
   have:=he no (by omega) h4;rwa[rfind_cons,if_neg (by omega),rfind_cons,if_neg (by omega)]at this)
  rw[hfg,hr]
theorem gfold {n r:Int}:∀ {fs:List Fld} {m:Int} (f:Int→Option Cel) (j:Int),okFrom n r m fs=true→(fs.foldl gstep f) j=match rfind fs j with | some c=>some (gone (f j) c) | none=>f j
 | [],_,_,_,_=>rfl
 | x::fs,m,f,j,h=>by
  simp only[okFrom,Bool.and_eq_true,decide_eq_true_eq]at h;rw[List.foldl_cons,gfold (gstep f x) j h.2,rfind_cons];by_cases hj:x.no=j
  ·subst hj;rw[rfind_low h.2 (by omega),if_pos rfl];simp[gstep]
  ·rw[if_neg hj];have:gstep f x j=f j:=by unfold gstep;rw[if_neg (fun e=>hj e.symm)]
   rw[this]
theorem gath_two {n r n' r':Int} {f1 f2:List Fld} {m m':Int} (h1:okFrom n r m f1=true) (h2:okFrom n' r' m' f2=true) (j:Int):gath (f1++f2) j=omerge (rfind f1 j) (rfind f2 j):=by
 unfold gath;rw[List.foldl_append,gfold _ j h2,gfold _ j h1];cases rfind f1 j<;>cases rfind f2 j<;>rfl
def Rc.at (R:Rc) (k:Nat):Option Cel:=rfind R.fs (k:Int)
def Rc.d (R:Rc):Int×Int:=(R.n,R.r)
def jn (a b:Rc):Rc:=⟨a.z,(mx a.d b.d).1,(mx a.d b.d).2,toF (fun k=>ofilt (mx a.d b.d) (omerge (a.at k) (b.at k))) 0 8⟩
theorem jn_d (a b:Rc):(jn a b).d=mx a.d b.d:=rfl
theorem jn_z (a b:Rc):(jn a b).z=a.z:=rfl
theorem join_eq {a b:Rc} (h1:a.may=true) (h2:b.may=true) (hz:a.z=b.z):a.join b=some (jn a b):=by
 unfold Rc.join rjoin;have hq:(a.z == b.z)=true:=by rw[beq_iff_eq];exact hz
 have m1:rmay a.n a.r a.fs=true:=h1;have m2:rmay b.n b.r b.fs=true:=h2;rw[hq,m1,m2,if_pos (by rfl),keep_rise];have e:(fun j:Nat=>ofilt ((jdead a.n a.r b.n b.r).1,(jdead a.n a.r b.n b.r).2) (gath (a.fs++b.fs) (j:Int)))=(fun k=>ofilt (mx a.d b.d) (omerge (a.at k) (b.at k))):=by
  funext j
  rw[gath_two (rmay_okFrom m1) (rmay_okFrom m2)]
  rfl
 rw[e]
 rfl
theorem at_jn (a b:Rc) {k:Nat} (hk:k<8):(jn a b).at k=ofilt (mx a.d b.d) (omerge (a.at k) (b.at k)):=by
 have e:(jn a b).at k=rfind (toF (fun k=>ofilt (mx a.d b.d) (omerge (a.at k) (b.at k))) 0 8) (k:Int):=rfl;rw[e,rfind_toF,if_pos (by omega),Int.toNat_natCast]
theorem rfind_mem {fs:List Fld} {no:Int} {c:Cel} (h:rfind fs no=some c):∃ f∈fs,f.no=no∧f.c=c:=by
 unfold rfind at h;obtain⟨f,hf,rfl⟩:=Option.map_eq_some_iff.1 h;exact⟨f,List.mem_of_find?_eq_some hf,by simpa using List.find?_some hf,rfl⟩
theorem at_may {a:Rc} (h:a.may=true) {k:Nat} {c:Cel} (hc:a.at k=some c):cmay c=true∧sl a.d c=true:=by
 obtain⟨f,hf,_,rfl⟩:=rfind_mem hc;exact⟨(rmay_all h f hf).2.2.1,(rmay_all h f hf).2.2.2⟩
theorem at_filt {a:Rc} (h:a.may=true) (k:Nat):ofilt a.d (a.at k)=a.at k:=by
 cases hc:a.at k with
 | none=>rfl
 | some c=>exact ofilt_some (at_may h hc).2
theorem rc_ext {a b:Rc} (h1:a.may=true) (h2:b.may=true) (hz:a.z=b.z) (hd:a.d=b.d) (he:∀ k,k<8→a.at k=b.at k):a=b:=by
 have hf:a.fs=b.fs:=ok_ext (rmay_okFrom h1) (rmay_okFrom h2) (fun no h0 h8=>by
  have:=he no.toNat (by omega);unfold Rc.at at this;rwa[Int.toNat_of_nonneg h0]at this)
 obtain⟨z1,n1,r1,f1⟩:=a;obtain⟨z2,n2,r2,f2⟩:=b;simp only[Rc.d,Prod.mk.injEq]at hd;simp only at hz hf;rw[hz,hf,hd.1,hd.2]
theorem cmay_join {o p:Option Cel} {c:Cel} (ho:∀ d,o=some d→cmay d=true) (hp:∀ d,p=some d→cmay d=true) (h:omerge o p=some c):cmay c=true:=by
 cases o with
 | none=>exact hp c h
 | some x=>
  cases p with
  | none=>exact ho c h
  | some y=>
   simp only[omerge,Option.some.injEq]at h;subst h;unfold cjoin
   split
   ·exact hp y rfl
   ·exact ho x rfl
theorem may_dead {a:Rc} (h:a.may=true):may a.n a.r=true:=by
 unfold Rc.may rmay at h;simp only[Bool.and_eq_true]at h;exact h.1.1
theorem may_some {a:Rc} (h:a.may=true) (hd:a.d=(0,0)):∃ k c,k<8∧a.at k=some c:=by
 have hne:a.fs≠[]:=by
  intro e;unfold Rc.may rmay at h;simp only[Rc.d,Prod.mk.injEq]at hd;rw[e,hd.1,hd.2]at h;simp at h
 obtain⟨f,fs,e⟩:=List.exists_cons_of_ne_nil hne;have hf:=rmay_all h f (by rw[e];exact List.mem_cons_self);refine⟨f.no.toNat,f.c,by omega,?_⟩;unfold Rc.at
 rw[Int.toNat_of_nonneg hf.1,e,rfind_cons,if_pos rfl]
theorem jn_may {a b:Rc} (h1:a.may=true) (h2:b.may=true):(jn a b).may=true:=by
 have hcell:∀ (k:Nat) (c:Cel),ofilt (mx a.d b.d) (omerge (a.at k) (b.at k))=some c→cmay c=true∧stLess (mx a.d b.d).1 (mx a.d b.d).2 c.n c.r=true:=fun k c h=>by
  obtain⟨h3,h4⟩:=Option.filter_eq_some_iff.1 h;exact⟨cmay_join (fun d hd=>(at_may h1 hd).1) (fun d hd=>(at_may h2 hd).1) h3,h4⟩
 have hok:=okFrom_toF (n:=(mx a.d b.d).1) (r:=(mx a.d b.d).2) hcell 8 0 0 (by omega) (by omega);have hm:may (mx a.d b.d).1 (mx a.d b.d).2=true:=by
  rcases mx_is a.d b.d with ⟨_,e⟩ | ⟨_,e⟩<;>rw[e]
  ·exact may_dead h2
  ·exact may_dead h1
 show rmay (mx a.d b.d).1 (mx a.d b.d).2 (jn a b).fs=true;unfold rmay;rw[hm,Bool.true_and];have hok':okFrom (mx a.d b.d).1 (mx a.d b.d).2 0 (jn a b).fs=true:=hok;rw[hok',Bool.and_true,Bool.not_eq_true',Bool.and_eq_false_iff,Bool.and_eq_false_iff];by_cases h0:(mx a.d b.d).1=0∧(mx a.d b.d).2=0
 ·left;left
  rw[decide_eq_false_iff_not];intro hl;have hmx:mx a.d b.d=(0,0):=Prod.ext h0.1 h0.2;have ha:a.d=(0,0):=by
   have:=sle_mx1 a.d b.d;have h5:=may_iff.1 (may_dead h1);unfold sle at this;rw[st_no,hmx]at this;unfold Rc.d at this ⊢;dsimp only at this;rw[Prod.mk.injEq];omega
  obtain⟨k,c,hk,hc⟩:=may_some h1 ha;have hn:=at_jn a b hk;have hnil:(jn a b).fs=[]:=List.eq_nil_of_length_eq_zero hl;have h6:(jn a b).at k=none:=by unfold Rc.at;rw[hnil];rfl
  rw[h6,hmx,hc]at hn;have hpos:∀ d,cmay d=true→sl (0,0) d=true:=fun d hd=>by
   have:=cmay_iff.1 hd;unfold sl;rw[stLess_iff]
   left
   dsimp only;omega
  cases hb:b.at k with
  | none=>
   rw[hb,omerge_none,ofilt_some (hpos c (at_may h1 hc).1)]at hn;cases hn
  | some d=>
   rw[hb]at hn;have hj:cmay (cjoin c d)=true:=cmay_join (o:=some c) (p:=some d) (fun x hx=>by cases hx;exact (at_may h1 hc).1) (fun x hx=>by cases hx;exact (at_may h2 hb).1) rfl;rw[show omerge (some c) (some d)=some (cjoin c d) from rfl,ofilt_some (hpos _ hj)]at hn;cases hn
 ·by_cases h3:(mx a.d b.d).1=0
  ·right
   rw[decide_eq_false_iff_not];exact fun h4=>h0 ⟨h3,h4⟩
  ·left;right
   rw[decide_eq_false_iff_not];exact h3
theorem jn_self {a:Rc} (h:a.may=true):jn a a=a:=
 rc_ext (jn_may h h) h rfl (by rw[jn_d,mx_self]) (fun k hk=>by rw[at_jn a a hk,omerge_self,mx_self,at_filt h])
theorem jn_comm {a b:Rc} (h1:a.may=true) (h2:b.may=true) (hz:a.z=b.z):jn a b=jn b a:=
 rc_ext (jn_may h1 h2) (jn_may h2 h1) hz (by rw[jn_d,jn_d,mx_comm]) (fun k hk=>by rw[at_jn a b hk,at_jn b a hk,mx_comm,omerge_comm])
end
section
open Go.RowKit WM
theorem il_irr:∀ x:List Int,lessL x x=false
 | []=>rfl
 | a::x=>by rw[lessL,il_irr x];simp
theorem il_trans:∀ {x y z:List Int},lessL x y=true→lessL y z=true→lessL x z=true
 | x,[],z,h,_=>by cases x<;>simp[lessL]at h
 | x,y::ys,[],_,h=>by simp[lessL]at h
 | [],y::ys,z::zs,_,_=>rfl
 | x::xs,y::ys,z::zs,h1,h2=>by
  rw[lessL]at h1 h2 ⊢;simp only[Bool.or_eq_true,Bool.and_eq_true,decide_eq_true_eq,beq_iff_eq]at h1 h2 ⊢;rcases h1 with h1 | ⟨rfl,h1⟩
  ·rcases h2 with h2 | ⟨rfl,h2⟩
   ·exact .inl (by omega)
   ·exact .inl h1
  ·rcases h2 with h2 | ⟨rfl,h2⟩
   ·exact .inl h2
   ·exact .inr ⟨rfl,il_trans h1 h2⟩
theorem il_tri:∀ x y:List Int,lessL x y=true∨x=y∨lessL y x=true
 | [],[]=>.inr (.inl rfl)
 | [],_::_=>.inl rfl
 | _::_,[]=>.inr (.inr rfl)
 | a::x,b::y=>by
  rw[lessL,lessL];simp only[Bool.or_eq_true,Bool.and_eq_true,decide_eq_true_eq,beq_iff_eq,List.cons.injEq];have:=il_tri x y;rcases Int.lt_trichotomy a b with h | rfl | h
  ·exact .inl (.inl h)
  ·rcases this with h | rfl | h
   ·exact .inl (.inr ⟨rfl,h⟩)
   ·exact .inr (.inl ⟨rfl,rfl⟩)
   ·exact .inr (.inr (.inr ⟨rfl,h⟩))
  ·exact .inr (.inr (.inl h))
theorem il_ne {x y:List Int} (h:lessL x y=true):x≠y:=by rintro rfl;rw[il_irr]at h;cases h
theorem il_asym {x y:List Int} (h:lessL x y=true):lessL y x=false:=by
 cases h2:lessL y x
 ·rfl
 ·have:=il_trans h h2;rw[il_irr]at this;cases this
def bat (bs:List Rc) (z:List Int):Option Rc:=bs.find? fun r=>decide (r.z=z)
def AllMay (bs:List Rc):Prop:=∀ r∈bs,r.may=true
def Rise (bs:List Rc):Prop:=bs.Pairwise fun a b=>lessL a.z b.z=true
def pzok:Option (List Int)→List Int→Bool
 | none,_=>true
 | some z,y=>lessL z y
def okB (p:Option (List Int)):List Rc→Bool
 | []=>true
 | r::rs=>r.may && pzok p r.z && okB (some r.z) rs
def bmay (bs:List Rc):Bool:=decide (bs.length≤10) && okB none bs
theorem okB_some {z:List Int}:∀ {bs:List Rc},okB (some z) bs=true↔(AllMay bs∧Rise bs∧∀ r∈bs,lessL z r.z=true)
 | []=>by simp[okB,AllMay,Rise]
 | r::rs=>by
  rw[okB,pzok];simp only[Bool.and_eq_true,okB_some (bs:=rs)]
  constructor
  ·rintro⟨⟨h1,h2⟩,h3,h4,h5⟩;refine⟨fun x hx=>?_,List.pairwise_cons.2 ⟨h5,h4⟩,fun x hx=>?_⟩
   ·rcases List.mem_cons.1 hx with rfl | hx
    ·exact h1
    ·exact h3 x hx
   ·rcases List.mem_cons.1 hx with rfl | hx
    ·exact h2
    ·exact il_trans h2 (h5 x hx)
  ·rintro⟨h1,h2,h3⟩;obtain⟨h4,h5⟩:=List.pairwise_cons.1 h2;exact⟨⟨h1 r List.mem_cons_self,h3 r List.mem_cons_self⟩,fun x hx=>h1 x (List.mem_cons_of_mem _ hx),h5,h4⟩
theorem okB_none {bs:List Rc}:okB none bs=true↔(AllMay bs∧Rise bs):=by
 cases bs with
 | nil=>simp[okB,AllMay,Rise]
 | cons r rs=>
  rw[okB,pzok];simp only[Bool.and_eq_true,okB_some,and_true]
  constructor
  ·rintro⟨h1,h3,h4,h5⟩;refine⟨fun x hx=>?_,List.pairwise_cons.2 ⟨h5,h4⟩⟩;rcases List.mem_cons.1 hx with rfl | hx
   ·exact h1
   ·exact h3 x hx
  ·rintro⟨h1,h2⟩;obtain⟨h4,h5⟩:=List.pairwise_cons.1 h2;exact⟨h1 r List.mem_cons_self,fun x hx=>h1 x (List.mem_cons_of_mem _ hx),h5,h4⟩
theorem bmay_iff {bs:List Rc}:bmay bs=true↔(bs.length≤10∧AllMay bs∧Rise bs):=by
 unfold bmay;simp only[Bool.and_eq_true,decide_eq_true_eq,okB_none]
theorem bat_nil (z:List Int):bat [] z=none:=rfl
theorem bat_cons (r:Rc) (rs:List Rc) (z:List Int):bat (r::rs) z=if r.z=z then some r else bat rs z:=by
 unfold bat;rw[List.find?_cons];by_cases h:r.z=z<;>simp[h]
theorem bat_some {bs:List Rc} {z:List Int} {r:Rc} (h:bat bs z=some r):r∈bs∧r.z=z:=⟨List.mem_of_find?_eq_some h,by simpa using List.find?_some h⟩
theorem bat_none {bs:List Rc} {z:List Int}:bat bs z=none↔∀ r∈bs,r.z≠z:=by
 unfold bat;rw[List.find?_eq_none];simp
theorem bat_mem:∀ {bs:List Rc},Rise bs→∀ {r:Rc},r∈bs→bat bs r.z=some r
 | [],_,r,h=>by cases h
 | x::xs,hR,r,h=>by
  obtain⟨h1,h2⟩:=List.pairwise_cons.1 hR;rw[bat_cons];rcases List.mem_cons.1 h with rfl | h
  ·rw[if_pos rfl]
  ·rw[if_neg (il_ne (h1 r h)),bat_mem h2 h]
theorem bat_low {bs:List Rc} {z:List Int} (h:∀ r∈bs,lessL z r.z=true):bat bs z=none:=bat_none.2 fun r hr e=>il_ne (h r hr) e.symm
theorem bk_ext:∀ {a b:List Rc},Rise a→Rise b→(∀ z,bat a z=bat b z)→a=b
 | [],[],_,_,_=>rfl
 | [],y::ys,_,_,h=>by have:=h y.z;rw[bat_nil,bat_cons,if_pos rfl]at this;cases this
 | x::xs,[],_,_,h=>by have:=h x.z;rw[bat_nil,bat_cons,if_pos rfl]at this;cases this
 | x::xs,y::ys,ha,hb,h=>by
  obtain⟨a1,a2⟩:=List.pairwise_cons.1 ha;obtain⟨b1,b2⟩:=List.pairwise_cons.1 hb;have hz:x.z=y.z:=by
   rcases il_tri x.z y.z with hl | he | hl
   ·have:=h x.z;rw[bat_cons,if_pos rfl,bat_low (bs:=y::ys) (fun r hr=>?_)]at this
    ·cases this
    ·rcases List.mem_cons.1 hr with rfl | hr
     ·exact hl
     ·exact il_trans hl (b1 r hr)
   ·exact he
   ·have:=h y.z;rw[bat_cons (r:=y),if_pos rfl,bat_low (bs:=x::xs) (fun r hr=>?_)]at this
    ·cases this
    ·rcases List.mem_cons.1 hr with rfl | hr
     ·exact hl
     ·exact il_trans hl (a1 r hr)
  have h0:=h x.z;rw[bat_cons,if_pos rfl,bat_cons,if_pos hz.symm]at h0;cases h0;rw[bk_ext a2 b2 fun z=>?_];by_cases hzz:x.z=z
  ·subst hzz;rw[bat_low a1,bat_low b1]
  ·have:=h z;rwa[bat_cons,if_neg hzz,bat_cons,if_neg hzz]at this
def bone (o:Option Rc) (r:Rc):Rc:=match o with | none=>r | some x=>jn x r
def bput:List Rc→Rc→List Rc
 | [],r=>[r]
 | x::xs,r=>if x.z=r.z then jn x r::xs else if lessL r.z x.z=true then r::x::xs else x::bput xs r
theorem bput_z:∀ {bs:List Rc} {r y:Rc},y∈bput bs r→y.z=r.z∨∃ x∈bs,x.z=y.z
 | [],r,y,h=>by rw[bput,List.mem_singleton]at h;exact .inl (by rw[h])
 | x::xs,r,y,h=>by
  rw[bput]at h
  split at h
  ·rename_i hz
   rcases List.mem_cons.1 h with rfl | h
   ·exact .inl (by rw[jn_z,hz])
   ·exact .inr ⟨y,List.mem_cons_of_mem _ h,rfl⟩
  ·split at h
   ·rcases List.mem_cons.1 h with rfl | h
    ·exact .inl rfl
    ·exact .inr ⟨y,h,rfl⟩
   ·rcases List.mem_cons.1 h with rfl | h
    ·exact .inr ⟨y,List.mem_cons_self,rfl⟩
    ·rcases bput_z h with h | ⟨x',hx',e⟩
     ·exact .inl h
     ·exact .inr ⟨x',List.mem_cons_of_mem _ hx',e⟩
theorem bput_rise:∀ {bs:List Rc} (r:Rc),Rise bs→Rise (bput bs r)
 | [],r,_=>List.pairwise_singleton _ _
 | x::xs,r,h=>by
  obtain⟨h1,h2⟩:=List.pairwise_cons.1 h;rw[bput]
  split
  ·exact List.pairwise_cons.2 ⟨fun y hy=>by rw[jn_z];exact h1 y hy,h2⟩
  ·rename_i hz
   split
   ·rename_i hl
    refine List.pairwise_cons.2 ⟨fun y hy=>?_,h⟩;rcases List.mem_cons.1 hy with rfl | hy
    ·exact hl
    ·exact il_trans hl (h1 y hy)
   ·rename_i hl
    refine List.pairwise_cons.2 ⟨fun y hy=>?_,bput_rise r h2⟩;rcases bput_z hy with e | ⟨x',hx',e⟩
    ·rw[e];rcases il_tri x.z r.z with h3 | h3 | h3
     ·exact h3
     ·exact absurd h3 hz
     ·exact absurd h3 hl
    ·rw[← e];exact h1 x' hx'
theorem bput_may:∀ {bs:List Rc} {r:Rc},AllMay bs→r.may=true→AllMay (bput bs r)
 | [],r,_,hr=>fun y hy=>by rw[bput,List.mem_singleton]at hy;rw[hy];exact hr
 | x::xs,r,h,hr=>fun y hy=>by
  have hx:=h x List.mem_cons_self;have hxs:AllMay xs:=fun y hy=>h y (List.mem_cons_of_mem _ hy);rw[bput]at hy
  split at hy
  ·rcases List.mem_cons.1 hy with rfl | hy
   ·exact jn_may hx hr
   ·exact hxs y hy
  ·split at hy
   ·rcases List.mem_cons.1 hy with rfl | hy
    ·exact hr
    ·exact h y hy
   ·rcases List.mem_cons.1 hy with rfl | hy
    ·exact hx
    ·exact bput_may hxs hr y hy
theorem bat_bput:∀ {bs:List Rc} (r:Rc) (z:List Int),Rise bs→bat (bput bs r) z=if r.z=z then some (bone (bat bs z) r) else bat bs z
 | [],r,z,_=>by rw[bput,bat_cons];rfl
 | x::xs,r,z,h=>by
  obtain⟨h1,h2⟩:=List.pairwise_cons.1 h;rw[bput]
  split
  ·rename_i hz
   rw[bat_cons,bat_cons,jn_z];by_cases hzz:r.z=z
   ·rw[if_pos (hz.trans hzz),if_pos hzz,if_pos (hz.trans hzz)];rfl
   ·rw[if_neg (by rw[hz];exact hzz),if_neg hzz,if_neg (by rw[hz];exact hzz)]
  ·rename_i hz
   split
   ·rename_i hl
    rw[bat_cons];by_cases hzz:r.z=z
    ·subst hzz;rw[if_pos rfl,if_pos rfl,bat_low fun y hy=>?_]
     ·rfl
     ·rcases List.mem_cons.1 hy with rfl | hy
      ·exact hl
      ·exact il_trans hl (h1 y hy)
    ·rw[if_neg hzz,if_neg hzz]
   ·rw[bat_cons,bat_bput r z h2,bat_cons];by_cases hzz:r.z=z
    ·subst hzz;rw[if_neg hz,if_pos rfl,if_pos rfl,if_neg hz]
    ·rw[if_neg hzz,if_neg hzz]
def bmerge:Option Rc→Option Rc→Option Rc
 | none,o=>o
 | some x,none=>some x
 | some x,some y=>some (jn x y)
theorem bmerge_bone (o:Option Rc) (r:Rc):bmerge o (some r)=some (bone o r):=by cases o<;>rfl
theorem bmerge_none (o:Option Rc):bmerge o none=o:=by cases o<;>rfl
theorem fold_rise:∀ {rs m:List Rc},Rise m→Rise (rs.foldl bput m)
 | [],_,h=>h
 | r::rs,m,h=>fold_rise (rs:=rs) (bput_rise r h)
theorem bat_fold:∀ {rs m:List Rc} (z:List Int),Rise m→Rise rs→bat (rs.foldl bput m) z=bmerge (bat m z) (bat rs z)
 | [],m,z,_,_=>by rw[bat_nil,bmerge_none];rfl
 | r::rs,m,z,hm,hr=>by
  obtain⟨h1,h2⟩:=List.pairwise_cons.1 hr;rw[List.foldl_cons,bat_fold z (bput_rise r hm) h2,bat_bput r z hm,bat_cons];by_cases hz:r.z=z
  ·subst hz;rw[if_pos rfl,if_pos rfl,bat_low h1,bmerge_none,bmerge_bone]
  ·rw[if_neg hz,if_neg hz]
def bjoin (a b:List Rc):List Rc:=(a++b).foldl bput []
theorem rise_nil:Rise []:=List.Pairwise.nil
theorem bjoin_rise (a b:List Rc):Rise (bjoin a b):=fold_rise rise_nil
theorem bat_bjoin {a b:List Rc} (h1:Rise a) (h2:Rise b) (z:List Int):bat (bjoin a b) z=bmerge (bat a z) (bat b z):=by
 unfold bjoin;rw[List.foldl_append,bat_fold z (fold_rise rise_nil) h2,bat_fold z rise_nil h1,bat_nil]
 rfl
theorem bat_may {a:List Rc} (h:AllMay a) {z:List Int} {r:Rc} (e:bat a z=some r):r.may=true∧r.z=z:=⟨h r (bat_some e).1,(bat_some e).2⟩
theorem bmerge_self {a:List Rc} (h:AllMay a) (z:List Int):bmerge (bat a z) (bat a z)=bat a z:=by
 cases e:bat a z with
 | none=>rfl
 | some r=>exact congrArg some (jn_self (bat_may h e).1)
theorem bmerge_comm {a b:List Rc} (ha:AllMay a) (hb:AllMay b) (z:List Int):bmerge (bat a z) (bat b z)=bmerge (bat b z) (bat a z):=by
 cases e:bat a z with
 | none=>rw[bmerge_none];rfl
 | some r=>
  cases f:bat b z with
  | none=>rfl
  | some s=>exact congrArg some (jn_comm (bat_may ha e).1 (bat_may hb f).1 ((bat_may ha e).2.trans (bat_may hb f).2.symm))
theorem bjoin_self {a:List Rc} (h1:AllMay a) (h2:Rise a):bjoin a a=a:=bk_ext (bjoin_rise _ _) h2 fun z=>by rw[bat_bjoin h2 h2,bmerge_self h1]
theorem bjoin_comm {a b:List Rc} (ha:AllMay a) (hb:AllMay b) (h1:Rise a) (h2:Rise b):bjoin a b=bjoin b a:=bk_ext (bjoin_rise _ _) (bjoin_rise _ _) fun z=>by rw[bat_bjoin h1 h2,bat_bjoin h2 h1,bmerge_comm ha hb]
def bjE (a b:List Rc):Int×List Rc:=if (bmay a && bmay b)=true then (if 10<(bjoin a b).length then (4,[]) else (0,bjoin a b)) else (1,[])
noncomputable def bsame:List Rc→List Rc→Bool
 | [],[]=>true
 | x::xs,y::ys=>x.same y && bsame xs ys
 | _,_=>false
theorem bsame_iff:∀ {a b:List Rc},bsame a b=true↔a=b
 | [],[]=>by simp[bsame]
 | [],_::_=>by simp[bsame]
 | _::_,[]=>by simp[bsame]
 | x::xs,y::ys=>by simp[bsame,Rc.same_iff,bsame_iff (a:=xs) (b:=ys)]
theorem bsame_self (a:List Rc):bsame a a=true:=bsame_iff.2 rfl
theorem bjE_no {a b:List Rc} (h:(bmay a && bmay b)=false):bjE a b=(1,[]):=by unfold bjE;rw[h];rfl
theorem bjE_large {a b:List Rc} (h1:bmay a=true) (h2:bmay b=true) (h:10<(bjoin a b).length):bjE a b=(4,[]):=by unfold bjE;rw[h1,h2,if_pos (by rfl),if_pos h]
theorem bjE_yes {a b:List Rc} (h1:bmay a=true) (h2:bmay b=true) (h:(bjoin a b).length≤10):bjE a b=(0,bjoin a b):=by unfold bjE;rw[h1,h2,if_pos (by rfl),if_neg (by omega)]
theorem bjE_ok {a b:List Rc} (h:(bjE a b).1=0):bmay a=true∧bmay b=true∧(bjoin a b).length≤10∧(bjE a b).2=bjoin a b:=by
 cases hm:(bmay a && bmay b) with
 | false=>rw[bjE_no hm]at h;cases h
 | true=>
  simp only[Bool.and_eq_true]at hm;by_cases hl:10<(bjoin a b).length
  ·rw[bjE_large hm.1 hm.2 hl]at h;cases h
  ·exact⟨hm.1,hm.2,by omega,by rw[bjE_yes hm.1 hm.2 (by omega)]⟩
def mput (m:List Rc) (r:Rc):List Rc:=match bat m r.z with | none=>m++[r] | some _=>m.map fun x=>if x.z=r.z then jn x r else x
def Keys1 (m:List Rc):Prop:=(m.map (·.z)).Nodup
theorem bat_append (m:List Rc) (r:Rc) (z:List Int):bat (m++[r]) z=(bat m z).or (if r.z=z then some r else none):=by
 unfold bat;rw[List.find?_append];by_cases h:r.z=z<;>simp[h]
theorem bat_map_jn (r:Rc) (z:List Int):∀ m:List Rc,bat (m.map fun x=>if x.z=r.z then jn x r else x) z=if r.z=z then (bat m z).map (fun x=>jn x r) else bat m z
 | []=>by rw[List.map_nil,bat_nil];simp
 | x::m=>by
  rw[List.map_cons,bat_cons,bat_map_jn r z m,bat_cons];by_cases hx:x.z=r.z
  ·rw[if_pos hx,jn_z];by_cases hz:r.z=z
   ·rw[if_pos (hx.trans hz),if_pos hz,if_pos (hx.trans hz)];rfl
   ·rw[if_neg (by rw[hx];exact hz),if_neg hz,if_neg hz,if_neg (by rw[hx];exact hz)]
  ·rw[if_neg hx];by_cases hz:r.z=z
   ·rw[if_pos hz,if_neg (by rw[← hz];exact hx),if_pos hz,if_neg (by rw[← hz];exact hx)]
   ·rw[if_neg hz,if_neg hz]
theorem bat_mput (m:List Rc) (r:Rc) (z:List Int):bat (mput m r) z=if r.z=z then some (bone (bat m z) r) else bat m z:=by
 unfold mput;cases e:bat m r.z with
 | none=>
  dsimp only;rw[bat_append];by_cases hz:r.z=z
  ·subst hz;rw[if_pos rfl,if_pos rfl,e];rfl
  ·rw[if_neg hz,if_neg hz,Option.or_none]
 | some x=>
  dsimp only;rw[bat_map_jn];by_cases hz:r.z=z
  ·subst hz;rw[if_pos rfl,if_pos rfl,e];rfl
  ·rw[if_neg hz,if_neg hz]
theorem map_jn_z (r:Rc) (m:List Rc):(m.map fun x=>if x.z=r.z then jn x r else x).map (·.z)=m.map (·.z):=by
 rw[List.map_map];apply List.map_congr_left;intro x _;simp only[Function.comp]
 split
 ·rfl
 ·rfl
theorem mput_keys {m:List Rc} {r:Rc} (h:Keys1 m):Keys1 (mput m r):=by
 unfold mput;cases e:bat m r.z with
 | none=>
  dsimp only;unfold Keys1;rw[List.map_append,List.nodup_append];refine⟨h,by simp,?_⟩;intro a ha b hb e2;simp only[List.map_cons,List.map_nil,List.mem_singleton]at hb;obtain⟨x,hx,rfl⟩:=List.mem_map.1 ha;exact bat_none.1 e x hx (e2.trans hb)
 | some x=>
  dsimp only;unfold Keys1;rw[map_jn_z];exact h
theorem mfold_bat:∀ (rs m m':List Rc),Rise m'→(∀ z,bat m z=bat m' z)→∀ z,bat (rs.foldl mput m) z=bat (rs.foldl bput m') z
 | [],_,_,_,h,z=>h z
 | r::rs,m,m',hr,h,z=>mfold_bat rs _ _ (bput_rise r hr) (fun z=>by rw[bat_mput,bat_bput r z hr,h]) z
theorem mfold_keys:∀ (rs m:List Rc),Keys1 m→Keys1 (rs.foldl mput m)
 | [],_,h=>h
 | r::rs,m,h=>mfold_keys rs _ (mput_keys h)
theorem bat_perm {m m':List Rc} (hp:m.Perm m') (h:Keys1 m) (z:List Int):bat m z=bat m' z:=by
 have key:∀ {l:List Rc},Keys1 l→∀ {r:Rc},r∈l→bat l r.z=some r:=fun {l} hl=>by
  induction l with
  | nil=>intro r hr;cases hr
  | cons x xs ih=>
   intro r hr;unfold Keys1 at hl;rw[List.map_cons,List.nodup_cons]at hl;rw[bat_cons];rcases List.mem_cons.1 hr with rfl | hr
   ·rw[if_pos rfl]
   ·rw[if_neg (fun e=>hl.1 (by rw[e];exact List.mem_map_of_mem hr)),ih hl.2 hr]
 have h':Keys1 m':=(hp.map _).nodup_iff.1 h;cases e:bat m z with
 | none=>
  refine (bat_none.2 fun r hr=>?_).symm;exact bat_none.1 e r (hp.mem_iff.2 hr)
 | some r=>
  obtain⟨h1,rfl⟩:=bat_some e;exact (key h' (hp.mem_iff.1 h1)).symm
theorem sorted_join {a b ys:List Rc} (hp:ys.Perm ((a++b).foldl mput [])) (hr:Rise ys):ys=bjoin a b:=by
 have hk:Keys1 ((a++b).foldl mput []):=mfold_keys _ _ List.nodup_nil;refine bk_ext hr (bjoin_rise a b) fun z=>?_;rw[← bat_perm hp.symm hk z];exact mfold_bat _ _ _ rise_nil (fun _=>rfl) z
end
section
open Go.RowKit WM
theorem ins_perm:∀ {bs:List Rc} {r:Rc},(∀ x∈bs,x.z≠r.z)→(bput bs r).Perm (r::bs)
 | [],r,_=>List.Perm.refl _
 | x::xs,r,h=>by
  rw[bput,if_neg (h x List.mem_cons_self)]
  split
  ·exact List.Perm.refl _
  ·exact ((ins_perm fun y hy=>h y (List.mem_cons_of_mem _ hy)).cons x).trans (List.Perm.swap r x xs)
theorem sortable:∀ (m:List Rc),Keys1 m→∃ ys:List Rc,ys.Perm m∧Rise ys
 | [],_=>⟨[],List.Perm.refl _,rise_nil⟩
 | r::m,h=>by
  unfold Keys1 at h;rw[List.map_cons,List.nodup_cons]at h;obtain⟨ys,hp,hr⟩:=sortable m h.2;refine⟨bput ys r,(ins_perm fun x hx e=>h.1 ?_).trans (hp.cons r),bput_rise r hr⟩;rw[← e];exact List.mem_map_of_mem (hp.mem_iff.1 hx)
end
end
end Go.Proofs.YtnlhkpmgbpfjmaaGreatDoor
