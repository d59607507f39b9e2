import Derived.Test.YtnlhkpmgbpfjmaaGreatDoorQd7
/- What functions answer, part 8. -/
namespace Go.Proofs.YtnlhkpmgbpfjmaaGreatDoor
set_option linter.unusedVariables false
set_option linter.unusedSimpArgs false
set_option maxHeartbeats 16000000
set_option maxRecDepth 100000
section
section
open Go.RowKit WM
theorem lessL_goes:∀ {xs ys zs:List Int},lessL xs ys=true→lessL ys zs=true→lessL xs zs=true
 | _,[],_,h,_=>by simp[lessL]at h
 | _,_::_,[],_,h=>by simp[lessL]at h
 | [],_::_,_::_,_,_=>rfl
 | x::xs,y::ys,z::zs,h1,h2=>by
  rw[lessL]at h1 h2 ⊢;simp only[Bool.or_eq_true,Bool.and_eq_true,decide_eq_true_eq,beq_iff_eq]at h1 h2 ⊢;rcases h1 with h1 | ⟨h1,h1'⟩<;>rcases h2 with h2 | ⟨h2,h2'⟩
  ·exact .inl (by omega)
  ·exact .inl (by omega)
  ·exact .inl (by omega)
  ·exact .inr ⟨by omega,lessL_goes h1' h2'⟩
theorem lessL_total:∀ {xs ys:List Int},lessL xs ys=false→lessL ys xs=false→xs=ys
 | [],[],_,_=>rfl
 | [],_::_,h,_=>by simp[lessL]at h
 | _::_,[],_,h=>by simp[lessL]at h
 | x::xs,y::ys,h1,h2=>by
  rw[lessL]at h1 h2;simp only[Bool.or_eq_false_iff,Bool.and_eq_false_iff,decide_eq_false_iff_not,beq_eq_false_iff_ne]at h1 h2;obtain⟨a1,a2⟩:=h1;obtain⟨b1,b2⟩:=h2;have e:x=y:=by omega
  subst e;have c1:lessL xs ys=false:=by
   rcases a2 with h | h
   ·exact absurd rfl h
   ·exact h
  have c2:lessL ys xs=false:=by
   rcases b2 with h | h
   ·exact absurd rfl h
   ·exact h
  rw[lessL_total c1 c2]
def CL (a b:Cel):Prop:=(a.n<b.n∨a.n=b.n∧a.r<b.r)∨(a.n=b.n∧a.r=b.r)∧(lessL (SH.sum (nums a.s)) (SH.sum (nums b.s))=true∨SH.sum (nums a.s)=SH.sum (nums b.s)∧lessL (nums a.s) (nums b.s)=true)
theorem cless_iff {a b:Cel}:cless a b=true↔CL a b:=by
 unfold cless CL;generalize SH.sum (nums a.s)=S;generalize SH.sum (nums b.s)=R;generalize nums a.s=P;generalize nums b.s=Q;cases h1:stLess a.n a.r b.n b.r
 ·rw[st_no]at h1;simp only[Bool.false_eq_true,if_false];cases h2:stLess b.n b.r a.n a.r
  ·rw[st_no]at h2;have e:a.n=b.n∧a.r=b.r:=by omega
   simp only[Bool.false_eq_true,if_false];cases h3:lessL S R
   ·simp only[Bool.false_eq_true,if_false];cases h4:lessL R S
    ·have e2:=lessL_total h3 h4;simp only[Bool.false_eq_true,if_false]
     constructor
     ·intro h;exact .inr ⟨e,.inr ⟨e2,h⟩⟩
     ·rintro (h | ⟨_,h | ⟨_,h⟩⟩)
      ·exact absurd h h1
      ·exact absurd h (by simp)
      ·exact h
    ·simp only[if_true]
     constructor
     ·intro h;cases h
     ·rintro (h | ⟨_,h | ⟨h,_⟩⟩)
      ·exact absurd h h1
      ·exact absurd h (by simp)
      ·rw[h,lessL_self]at h4;cases h4
   ·simp only[if_true,true_iff];exact .inr ⟨e,.inl trivial⟩
  ·rw[stLess_iff]at h2;simp only[if_true]
   constructor
   ·intro h;cases h
   ·rintro (h | ⟨h,_⟩)<;>omega
 ·rw[stLess_iff]at h1;simp only[if_true,true_iff];exact .inl h1
theorem cless_goes {a b c:Cel} (h1:cless a b=true) (h2:cless b c=true):cless a c=true:=by
 rw[cless_iff]at h1 h2 ⊢;rcases h1 with h1 | ⟨e1,h1⟩<;>rcases h2 with h2 | ⟨e2,h2⟩
 ·exact .inl (by omega)
 ·exact .inl (by omega)
 ·exact .inl (by omega)
 ·refine .inr ⟨by omega,?_⟩;rcases h1 with h1 | ⟨f1,h1⟩<;>rcases h2 with h2 | ⟨f2,h2⟩
  ·exact .inl (lessL_goes h1 h2)
  ·rw[← f2];exact .inl h1
  ·rw[f1];exact .inl h2
  ·exact .inr ⟨f1.trans f2,lessL_goes h1 h2⟩
theorem cless_not {a b:Cel} (h:cless a b=true):cless b a=false:=by
 cases h1:cless b a
 ·rfl
 ·have:=cless_goes h h1;rw[cless_self]at this;cases this
theorem nums_inj {s t:ByteArray} (h:nums s=nums t):s=t:=by rw[← str_nums s,← str_nums t,h]
theorem cless_total {a b:Cel} (h1:cless a b=false) (h2:cless b a=false):a=b:=by
 have k1:¬ CL a b:=fun h=>by rw[cless_iff.2 h]at h1;cases h1
 have k2:¬ CL b a:=fun h=>by rw[cless_iff.2 h]at h2;cases h2
 unfold CL at k1 k2;have e:a.n=b.n∧a.r=b.r:=by omega
 have e2:SH.sum (nums a.s)=SH.sum (nums b.s):=by
  refine lessL_total ?_ ?_
  ·cases h:lessL (SH.sum (nums a.s)) (SH.sum (nums b.s))
   ·rfl
   ·exact absurd (.inr ⟨e,.inl h⟩) k1
  ·cases h:lessL (SH.sum (nums b.s)) (SH.sum (nums a.s))
   ·rfl
   ·exact absurd (.inr ⟨⟨e.1.symm,e.2.symm⟩,.inl h⟩) k2
 have e3:nums a.s=nums b.s:=by
  refine lessL_total ?_ ?_
  ·cases h:lessL (nums a.s) (nums b.s)
   ·rfl
   ·exact absurd (.inr ⟨e,.inr ⟨e2,h⟩⟩) k1
  ·cases h:lessL (nums b.s) (nums a.s)
   ·rfl
   ·exact absurd (.inr ⟨⟨e.1.symm,e.2.symm⟩,.inr ⟨e2.symm,h⟩⟩) k2
 have e4:=nums_inj e3;clear h1 h2 k1 k2 e2 e3;obtain⟨n,r,s⟩:=a;obtain⟨m,q,t⟩:=b;obtain⟨h1,h2⟩:=e;dsimp only at h1 h2 e4;rw[h1,h2,e4]
theorem cjoin_yes {a b:Cel} (h:cless a b=true):cjoin a b=b:=by rw[cjoin,if_pos h]
theorem cjoin_no {a b:Cel} (h:cless a b=false):cjoin a b=a:=by rw[cjoin,if_neg (by rw[h];decide)]
theorem cjoin_self (a:Cel):cjoin a a=a:=cjoin_no (cless_self a)
theorem cjoin_comm (a b:Cel):cjoin b a=cjoin a b:=by
 cases h1:cless a b
 ·cases h2:cless b a
  ·rw[cless_total h1 h2]
  ·rw[cjoin_no h1,cjoin_yes h2]
 ·rw[cjoin_yes h1,cjoin_no (cless_not h1)]
theorem cjoin_assoc (a b c:Cel):cjoin a (cjoin b c)=cjoin (cjoin a b) c:=by
 cases h1:cless a b
 ·cases h2:cless b c
  ·rw[cjoin_no h2,cjoin_no h1];cases h3:cless a c
   ·rw[cjoin_no h3]
   ·rw[cjoin_yes h3];cases h4:cless b a
    ·rw[cless_total h1 h4]at h3;rw[h2]at h3;cases h3
    ·rw[cless_goes h4 h3]at h2;cases h2
  ·rw[cjoin_yes h2,cjoin_no h1]
 ·rw[cjoin_yes h1];cases h2:cless b c
  ·rw[cjoin_no h2,cjoin_yes h1]
  ·rw[cjoin_yes h2,cjoin_yes (cless_goes h1 h2)]
end
section
open Go.RowKit WM
def omerge:Option Cel→Option Cel→Option Cel
 | none,o=>o
 | some c,none=>some c
 | some c,some d=>some (cjoin c d)
def sl (m:Int×Int) (c:Cel):Bool:=stLess m.1 m.2 c.n c.r
def ofilt (m:Int×Int) (o:Option Cel):Option Cel:=o.filter (sl m)
theorem omerge_none (o:Option Cel):omerge o none=o:=by cases o<;>rfl
theorem omerge_comm (o p:Option Cel):omerge o p=omerge p o:=by
 cases o<;>cases p<;>simp[omerge]
 exact cjoin_comm _ _
theorem omerge_assoc (o p q:Option Cel):omerge (omerge o p) q=omerge o (omerge p q):=by
 cases o<;>cases p<;>cases q<;>simp[omerge]
 exact (cjoin_assoc _ _ _).symm
theorem omerge_self (o:Option Cel):omerge o o=o:=by
 cases o<;>simp[omerge]
 exact cjoin_self _
theorem ofilt_some {m:Int×Int} {c:Cel} (h:sl m c=true):ofilt m (some c)=some c:=by simp[ofilt,h]
theorem ofilt_no {m:Int×Int} {c:Cel} (h:sl m c=false):ofilt m (some c)=none:=by simp[ofilt,h]
theorem ofilt_none (m:Int×Int):ofilt m none=none:=rfl
def sle (m' m:Int×Int):Prop:=stLess m.1 m.2 m'.1 m'.2=false
theorem sl_mono {m m':Int×Int} (h:sle m' m) {c:Cel} (hc:sl m' c=false):sl m c=false:=by
 unfold sle at h;unfold sl at hc ⊢;rw[st_no]at h hc ⊢;omega
theorem st_cless {c d:Cel} (h:stLess c.n c.r d.n d.r=true):cless c d=true:=by
 rw[cless_iff];exact .inl (stLess_iff.1 h)
theorem ofilt_merge {m m':Int×Int} (h:sle m' m) (o p:Option Cel):ofilt m (omerge (ofilt m' o) p)=ofilt m (omerge o p):=by
 cases o with
 | none=>rfl
 | some c=>
  cases hc:sl m' c with
  | true=>rw[ofilt_some hc]
  | false=>
   rw[ofilt_no hc];have h1:=sl_mono h hc;cases p with
   | none=>simp[omerge,ofilt_none,ofilt_no h1]
   | some d=>
    simp only[omerge];cases hl:cless c d with
    | true=>rw[cjoin_yes hl]
    | false=>
     rw[cjoin_no hl,ofilt_no h1];have h2:stLess c.n c.r d.n d.r=false:=by
      cases hh:stLess c.n c.r d.n d.r
      ·rfl
      ·rw[st_cless hh]at hl;cases hl
     refine ofilt_no ?_;unfold sl at h1 ⊢;rw[st_no]at h1 h2 ⊢;omega
theorem sle_mx1 (a b:Int×Int):sle a (mx a b):=by
 unfold sle;rcases mx_is a b with ⟨h,e⟩ | ⟨h,e⟩
 ·rw[e,st_no];rw[stLess_iff]at h;omega
 ·rw[e,st_no];omega
theorem sle_mx2 (a b:Int×Int):sle b (mx a b):=by rw[← mx_comm];exact sle_mx1 b a
def toF (φ:Nat→Option Cel):Nat→Nat→List Fld
 | _,0=>[]
 | k,n+1=>(match φ k with | some c=>[⟨(k:Int),c⟩] | none=>[])++toF φ (k+1) n
theorem toF_last (φ:Nat→Option Cel):∀ (n k:Nat),toF φ k (n+1)=toF φ k n++(match φ (k+n) with | some c=>[⟨((k+n:Nat):Int),c⟩] | none=>[])
 | 0,k=>by simp[toF]
 | n+1,k=>by
  rw[toF,toF_last φ n (k+1)]
  conv=>rhs;rw[toF]
  rw[List.append_assoc,show k+1+n=k+(n+1) by omega]
theorem keep_rise (n r:Int) (f:Int→Option Cel):∀ k,keep n r (riseL f k)=toF (fun j=>ofilt (n,r) (f j)) 0 k
 | 0=>rfl
 | k+1=>by
  rw[toF_last,Nat.zero_add,← keep_rise n r f k,riseL];cases hf:f k with
  | none=>simp[ofilt_none]
  | some c=>
   rw[keep_snoc];dsimp only;cases hs:stLess n r c.n c.r
   ·rw[ofilt_no (m:=(n,r)) hs];rfl
   ·rw[ofilt_some (m:=(n,r)) hs];rfl
theorem rfind_append (fs gs:List Fld) (no:Int):rfind (fs++gs) no=(rfind fs no).or (rfind gs no):=by
 unfold rfind;rw[List.find?_append];cases fs.find? fun f=>decide (f.no=no)<;>rfl
theorem rfind_toF (φ:Nat→Option Cel) (no:Int):∀ (n k:Nat),rfind (toF φ k n) no=if (k:Int)≤no∧no<k+n then φ no.toNat else none
 | 0,k=>by rw[if_neg (by omega)];rfl
 | n+1,k=>by
  rw[toF,rfind_append,rfind_toF φ no n (k+1)];by_cases hk:no=k
  ·subst hk;rw[if_neg (by omega),if_pos (by omega),Int.toNat_natCast];cases φ k with
   | none=>rfl
   | some c=>simp[rfind_cons]
  ·have h1:rfind (match φ k with | some c=>[⟨(k:Int),c⟩] | none=>[]) no=none:=by
    cases φ k with
    | none=>rfl
    | some c=>rw[rfind_cons,if_neg (by dsimp only;omega)];rfl
   rw[h1,Option.none_or];by_cases h2:(k:Int)≤no∧no<k+(n+1:Nat)
   ·rw[if_pos h2,if_pos (by omega)]
   ·rw[if_neg h2,if_neg (by omega)]
theorem okFrom_toF {n r:Int} {φ:Nat→Option Cel} (h:∀ k c,φ k=some c→cmay c=true∧stLess n r c.n c.r=true):∀ (j k:Nat) (m:Int),m≤k→k+j≤8→okFrom n r m (toF φ k j)=true
 | 0,_,_,_,_=>rfl
 | j+1,k,m,hm,hk=>by
  rw[toF];cases hf:φ k with
  | none=>exact okFrom_toF h j (k+1) m (by omega) (by omega)
  | some c=>
   obtain⟨h1,h2⟩:=h k c hf;have h3:=okFrom_toF h j (k+1) ((k:Int)+1) (by omega) (by omega);simp only[List.singleton_append,okFrom,h1,h2,h3,Bool.and_true,Bool.and_eq_true,decide_eq_true_eq];omega
theorem rfind_low {n r:Int}:∀ {fs:List Fld} {m no:Int},okFrom n r m fs=true→no<m→rfind fs no=none
 | [],_,_,_,_=>rfl
 | f::fs,m,no,h,hlt=>by
  simp only[okFrom,Bool.and_eq_true,decide_eq_true_eq]at h;rw[rfind_cons,if_neg (by omega)];exact rfind_low h.2 (by omega)
theorem ok_ext {n r n' r':Int}:∀ {fs gs:List Fld} {m:Int},okFrom n r m fs=true→okFrom n' r' m gs=true→(∀ no,m≤no→no<8→rfind fs no=rfind gs no)→fs=gs
 | [],[],_,_,_,_=>rfl
 | [],g::gs,m,_,h2,he=>by
  simp only[okFrom,Bool.and_eq_true,decide_eq_true_eq]at h2;have:=he g.no (by omega) (by omega);rw[rfind_cons,if_pos rfl]at this;cases this
 | f::fs,[],m,h1,_,he=>by
  simp only[okFrom,Bool.and_eq_true,decide_eq_true_eq]at h1;have:=he f.no (by omega) (by omega);rw[rfind_cons,if_pos rfl]at this;cases this
 | f::fs,g::gs,m,h1,h2,he=>by
  simp only[okFrom,Bool.and_eq_true,decide_eq_true_eq]at h1 h2;have e1:=he f.no (by omega) (by omega);have e2:=he g.no (by omega) (by omega);rw[rfind_cons,if_pos rfl,rfind_cons]at e1;rw[rfind_cons,rfind_cons,if_pos rfl]at e2;have hn:f.no=g.no:=by
   by_cases hlt:f.no<g.no
   ·rw[if_neg (by omega),rfind_low h2.2 (by omega)]at e1;cases e1
   ·by_cases hgt:g.no<f.no
    ·rw[if_neg (by omega),rfind_low h1.2 (by omega)]at e2;cases e2
    ·omega
  rw[if_pos hn.symm]at e1;have hfg:f=g:=by
   obtain⟨a,c⟩:=f;obtain⟨b,d⟩:=g;dsimp only at hn e1;rw[hn,Option.some.inj e1]
  have hr:fs=gs:=ok_ext (m:=g.no+1) (hn▸h1.2) h2.2 (fun no h3 h4=>by
   have:=he no (by omega) h4;rwa[rfind_cons,if_neg (by omega),rfind_cons,if_neg (by omega)]at this)
  rw[hfg,hr]
theorem gfold {n r:Int}:∀ {fs:List Fld} {m:Int} (f:Int→Option Cel) (j:Int),okFrom n r m fs=true→(fs.foldl gstep f) j=match rfind fs j with | some c=>some (gone (f j) c) | none=>f j
 | [],_,_,_,_=>rfl
 | x::fs,m,f,j,h=>by
  simp only[okFrom,Bool.and_eq_true,decide_eq_true_eq]at h;rw[List.foldl_cons,gfold (gstep f x) j h.2,rfind_cons];by_cases hj:x.no=j
  ·subst hj;rw[rfind_low h.2 (by omega),if_pos rfl];simp[gstep]
  ·rw[if_neg hj];have:gstep f x j=f j:=by unfold gstep;rw[if_neg (fun e=>hj e.symm)]
   rw[this]
theorem gath_two {n r n' r':Int} {f1 f2:List Fld} {m m':Int} (h1:okFrom n r m f1=true) (h2:okFrom n' r' m' f2=true) (j:Int):gath (f1++f2) j=omerge (rfind f1 j) (rfind f2 j):=by
 unfold gath;rw[List.foldl_append,gfold _ j h2,gfold _ j h1];cases rfind f1 j<;>cases rfind f2 j<;>rfl
def Rc.at (R:Rc) (k:Nat):Option Cel:=rfind R.fs (k:Int)
def Rc.d (R:Rc):Int×Int:=(R.n,R.r)
def jn (a b:Rc):Rc:=⟨a.z,(mx a.d b.d).1,(mx a.d b.d).2,toF (fun k=>ofilt (mx a.d b.d) (omerge (a.at k) (b.at k))) 0 8⟩
theorem jn_d (a b:Rc):(jn a b).d=mx a.d b.d:=rfl
theorem jn_z (a b:Rc):(jn a b).z=a.z:=rfl
theorem join_eq {a b:Rc} (h1:a.may=true) (h2:b.may=true) (hz:a.z=b.z):a.join b=some (jn a b):=by
 unfold Rc.join rjoin;have hq:(a.z == b.z)=true:=by rw[beq_iff_eq];exact hz
 have m1:rmay a.n a.r a.fs=true:=h1;have m2:rmay b.n b.r b.fs=true:=h2;rw[hq,m1,m2,if_pos (by rfl),keep_rise];have e:(fun j:Nat=>ofilt ((jdead a.n a.r b.n b.r).1,(jdead a.n a.r b.n b.r).2) (gath (a.fs++b.fs) (j:Int)))=(fun k=>ofilt (mx a.d b.d) (omerge (a.at k) (b.at k))):=by
  funext j
  rw[gath_two (rmay_okFrom m1) (rmay_okFrom m2)]
  rfl
 rw[e]
 rfl
theorem at_jn (a b:Rc) {k:Nat} (hk:k<8):(jn a b).at k=ofilt (mx a.d b.d) (omerge (a.at k) (b.at k)):=by
 have e:(jn a b).at k=rfind (toF (fun k=>ofilt (mx a.d b.d) (omerge (a.at k) (b.at k))) 0 8) (k:Int):=rfl;rw[e,rfind_toF,if_pos (by omega),Int.toNat_natCast]
theorem rfind_mem {fs:List Fld} {no:Int} {c:Cel} (h:rfind fs no=some c):∃ f∈fs,f.no=no∧f.c=c:=by
 unfold rfind at h;obtain⟨f,hf,rfl⟩:=Option.map_eq_some_iff.1 h;exact⟨f,List.mem_of_find?_eq_some hf,by simpa using List.find?_some hf,rfl⟩
theorem at_may {a:Rc} (h:a.may=true) {k:Nat} {c:Cel} (hc:a.at k=some c):cmay c=true∧sl a.d c=true:=by
 obtain⟨f,hf,_,rfl⟩:=rfind_mem hc;exact⟨(rmay_all h f hf).2.2.1,(rmay_all h f hf).2.2.2⟩
theorem at_filt {a:Rc} (h:a.may=true) (k:Nat):ofilt a.d (a.at k)=a.at k:=by
 cases hc:a.at k with
 | none=>rfl
 | some c=>exact ofilt_some (at_may h hc).2
theorem rc_ext {a b:Rc} (h1:a.may=true) (h2:b.may=true) (hz:a.z=b.z) (hd:a.d=b.d) (he:∀ k,k<8→a.at k=b.at k):a=b:=by
 have hf:a.fs=b.fs:=ok_ext (rmay_okFrom h1) (rmay_okFrom h2) (fun no h0 h8=>by
  have:=he no.toNat (by omega);unfold Rc.at at this;rwa[Int.toNat_of_nonneg h0]at this)
 obtain⟨z1,n1,r1,f1⟩:=a;obtain⟨z2,n2,r2,f2⟩:=b;simp only[Rc.d,Prod.mk.injEq]at hd;simp only at hz hf;rw[hz,hf,hd.1,hd.2]
theorem cmay_join {o p:Option Cel} {c:Cel} (ho:∀ d,o=some d→cmay d=true) (hp:∀ d,p=some d→cmay d=true) (h:omerge o p=some c):cmay c=true:=by
 cases o with
 | none=>exact hp c h
 | some x=>
  cases p with
  | none=>exact ho c h
  | some y=>
   simp only[omerge,Option.some.injEq]at h;subst h;unfold cjoin
   split
   ·exact hp y rfl
   ·exact ho x rfl
theorem may_dead {a:Rc} (h:a.may=true):may a.n a.r=true:=by
 unfold Rc.may rmay at h;simp only[Bool.and_eq_true]at h;exact h.1.1
theorem may_some {a:Rc} (h:a.may=true) (hd:a.d=(0,0)):∃ k c,k<8∧a.at k=some c:=by
 have hne:a.fs≠[]:=by
  intro e;unfold Rc.may rmay at h;simp only[Rc.d,Prod.mk.injEq]at hd;rw[e,hd.1,hd.2]at h;simp at h
 obtain⟨f,fs,e⟩:=List.exists_cons_of_ne_nil hne;have hf:=rmay_all h f (by rw[e];exact List.mem_cons_self);refine⟨f.no.toNat,f.c,by omega,?_⟩;unfold Rc.at
 rw[Int.toNat_of_nonneg hf.1,e,rfind_cons,if_pos rfl]
theorem jn_may {a b:Rc} (h1:a.may=true) (h2:b.may=true):(jn a b).may=true:=by
 have hcell:∀ (k:Nat) (c:Cel),ofilt (mx a.d b.d) (omerge (a.at k) (b.at k))=some c→cmay c=true∧stLess (mx a.d b.d).1 (mx a.d b.d).2 c.n c.r=true:=fun k c h=>by
  obtain⟨h3,h4⟩:=Option.filter_eq_some_iff.1 h;exact⟨cmay_join (fun d hd=>(at_may h1 hd).1) (fun d hd=>(at_may h2 hd).1) h3,h4⟩
 have hok:=okFrom_toF (n:=(mx a.d b.d).1) (r:=(mx a.d b.d).2) hcell 8 0 0 (by omega) (by omega);have hm:may (mx a.d b.d).1 (mx a.d b.d).2=true:=by
  rcases mx_is a.d b.d with ⟨_,e⟩ | ⟨_,e⟩<;>rw[e]
  ·exact may_dead h2
  ·exact may_dead h1
 show rmay (mx a.d b.d).1 (mx a.d b.d).2 (jn a b).fs=true;unfold rmay;rw[hm,Bool.true_and];have hok':okFrom (mx a.d b.d).1 (mx a.d b.d).2 0 (jn a b).fs=true:=hok;rw[hok',Bool.and_true,Bool.not_eq_true',Bool.and_eq_false_iff,Bool.and_eq_false_iff];by_cases h0:(mx a.d b.d).1=0∧(mx a.d b.d).2=0
 ·left;left
  rw[decide_eq_false_iff_not];intro hl;have hmx:mx a.d b.d=(0,0):=Prod.ext h0.1 h0.2;have ha:a.d=(0,0):=by
   have:=sle_mx1 a.d b.d;have h5:=may_iff.1 (may_dead h1);unfold sle at this;rw[st_no,hmx]at this;unfold Rc.d at this ⊢;dsimp only at this;rw[Prod.mk.injEq];omega
  obtain⟨k,c,hk,hc⟩:=may_some h1 ha;have hn:=at_jn a b hk;have hnil:(jn a b).fs=[]:=List.eq_nil_of_length_eq_zero hl;have h6:(jn a b).at k=none:=by unfold Rc.at;rw[hnil];rfl
  rw[h6,hmx,hc]at hn;have hpos:∀ d,cmay d=true→sl (0,0) d=true:=fun d hd=>by
   have:=cmay_iff.1 hd;unfold sl;rw[stLess_iff]
   left
   dsimp only;omega
  cases hb:b.at k with
  | none=>
   rw[hb,omerge_none,ofilt_some (hpos c (at_may h1 hc).1)]at hn;cases hn
  | some d=>
   rw[hb]at hn;have hj:cmay (cjoin c d)=true:=cmay_join (o:=some c) (p:=some d) (fun x hx=>by cases hx;exact (at_may h1 hc).1) (fun x hx=>by cases hx;exact (at_may h2 hb).1) rfl;rw[show omerge (some c) (some d)=some (cjoin c d) from rfl,ofilt_some (hpos _ hj)]at hn;cases hn
 ·by_cases h3:(mx a.d b.d).1=0
  ·right
   rw[decide_eq_false_iff_not];exact fun h4=>h0 ⟨h3,h4⟩
  ·left;right
   rw[decide_eq_false_iff_not];exact h3
theorem jn_self {a:Rc} (h:a.may=true):jn a a=a:=
 rc_ext (jn_may h h) h rfl (by rw[jn_d,mx_self]) (fun k hk=>by rw[at_jn a a hk,omerge_self,mx_self,at_filt h])
theorem jn_comm {a b:Rc} (h1:a.may=true) (h2:b.may=true) (hz:a.z=b.z):jn a b=jn b a:=
 rc_ext (jn_may h1 h2) (jn_may h2 h1) hz (by rw[jn_d,jn_d,mx_comm]) (fun k hk=>by rw[at_jn a b hk,at_jn b a hk,mx_comm,omerge_comm])
theorem jn_assoc {a b c:Rc} (h1:a.may=true) (h2:b.may=true) (h3:c.may=true) (hz:a.z=b.z) (hz2:b.z=c.z):jn (jn a b) c=jn a (jn b c):=by
 refine rc_ext (jn_may (jn_may h1 h2) h3) (jn_may h1 (jn_may h2 h3)) rfl (by rw[jn_d,jn_d,jn_d,jn_d,mx_assoc]) (fun k hk=>?_);have l1:sle (mx a.d b.d) (mx (mx a.d b.d) c.d):=sle_mx1 _ _;have l2:sle (mx b.d c.d) (mx (mx a.d b.d) c.d):=by rw[← mx_assoc];exact sle_mx2 _ _
 rw[at_jn (jn a b) c hk,at_jn a (jn b c) hk,jn_d,jn_d,at_jn a b hk,at_jn b c hk,mx_assoc,ofilt_merge l1,omerge_comm (a.at k) (ofilt _ _),ofilt_merge l2,omerge_comm _ (a.at k),omerge_assoc]
end
section
open Go.RowKit WM
theorem il_irr:∀ x:List Int,lessL x x=false
 | []=>rfl
 | a::x=>by rw[lessL,il_irr x];simp
theorem il_trans:∀ {x y z:List Int},lessL x y=true→lessL y z=true→lessL x z=true
 | x,[],z,h,_=>by cases x<;>simp[lessL]at h
 | x,y::ys,[],_,h=>by simp[lessL]at h
 | [],y::ys,z::zs,_,_=>rfl
 | x::xs,y::ys,z::zs,h1,h2=>by
  rw[lessL]at h1 h2 ⊢;simp only[Bool.or_eq_true,Bool.and_eq_true,decide_eq_true_eq,beq_iff_eq]at h1 h2 ⊢;rcases h1 with h1 | ⟨rfl,h1⟩
  ·rcases h2 with h2 | ⟨rfl,h2⟩
   ·exact .inl (by omega)
   ·exact .inl h1
  ·rcases h2 with h2 | ⟨rfl,h2⟩
   ·exact .inl h2
   ·exact .inr ⟨rfl,il_trans h1 h2⟩
theorem il_tri:∀ x y:List Int,lessL x y=true∨x=y∨lessL y x=true
 | [],[]=>.inr (.inl rfl)
 | [],_::_=>.inl rfl
 | _::_,[]=>.inr (.inr rfl)
 | a::x,b::y=>by
  rw[lessL,lessL];simp only[Bool.or_eq_true,Bool.and_eq_true,decide_eq_true_eq,beq_iff_eq,List.cons.injEq];have:=il_tri x y;rcases Int.lt_trichotomy a b with h | rfl | h
  ·exact .inl (.inl h)
  ·rcases this with h | rfl | h
   ·exact .inl (.inr ⟨rfl,h⟩)
   ·exact .inr (.inl ⟨rfl,rfl⟩)
   ·exact .inr (.inr (.inr ⟨rfl,h⟩))
  ·exact .inr (.inr (.inl h))
theorem il_ne {x y:List Int} (h:lessL x y=true):x≠y:=by rintro rfl;rw[il_irr]at h;cases h
def bat (bs:List Rc) (z:List Int):Option Rc:=bs.find? fun r=>decide (r.z=z)
def AllMay (bs:List Rc):Prop:=∀ r∈bs,r.may=true
def Rise (bs:List Rc):Prop:=bs.Pairwise fun a b=>lessL a.z b.z=true
def pzok:Option (List Int)→List Int→Bool
 | none,_=>true
 | some z,y=>lessL z y
def okB (p:Option (List Int)):List Rc→Bool
 | []=>true
 | r::rs=>r.may && pzok p r.z && okB (some r.z) rs
def bmay (bs:List Rc):Bool:=decide (bs.length≤10) && okB none bs
theorem okB_some {z:List Int}:∀ {bs:List Rc},okB (some z) bs=true↔(AllMay bs∧Rise bs∧∀ r∈bs,lessL z r.z=true)
 | []=>by simp[okB,AllMay,Rise]
 | r::rs=>by
  rw[okB,pzok];simp only[Bool.and_eq_true,okB_some (bs:=rs)]
  constructor
  ·rintro⟨⟨h1,h2⟩,h3,h4,h5⟩;refine⟨fun x hx=>?_,List.pairwise_cons.2 ⟨h5,h4⟩,fun x hx=>?_⟩
   ·rcases List.mem_cons.1 hx with rfl | hx
    ·exact h1
    ·exact h3 x hx
   ·rcases List.mem_cons.1 hx with rfl | hx
    ·exact h2
    ·exact il_trans h2 (h5 x hx)
  ·rintro⟨h1,h2,h3⟩;obtain⟨h4,h5⟩:=List.pairwise_cons.1 h2;exact⟨⟨h1 r List.mem_cons_self,h3 r List.mem_cons_self⟩,fun x hx=>h1 x (List.mem_cons_of_mem _ hx),h5,h4⟩
theorem okB_none {bs:List Rc}:okB none bs=true↔(AllMay bs∧Rise bs):=by
 cases bs with
 | nil=>simp[okB,AllMay,Rise]
 | cons r rs=>
  rw[okB,pzok];simp only[Bool.and_eq_true,okB_some,and_true]
  constructor
  ·rintro⟨h1,h3,h4,h5⟩;refine⟨fun x hx=>?_,List.pairwise_cons.2 ⟨h5,h4⟩⟩;rcases List.mem_cons.1 hx with rfl | hx
   ·exact h1
   ·exact h3 x hx
  ·rintro⟨h1,h2⟩;obtain⟨h4,h5⟩:=List.pairwise_cons.1 h2;exact⟨h1 r List.mem_cons_self,fun x hx=>h1 x (List.mem_cons_of_mem _ hx),h5,h4⟩
theorem bmay_iff {bs:List Rc}:bmay bs=true↔(bs.length≤10∧AllMay bs∧Rise bs):=by
 unfold bmay;simp only[Bool.and_eq_true,decide_eq_true_eq,okB_none]
theorem bat_nil (z:List Int):bat [] z=none:=rfl
theorem bat_cons (r:Rc) (rs:List Rc) (z:List Int):bat (r::rs) z=if r.z=z then some r else bat rs z:=by
 unfold bat;rw[List.find?_cons];by_cases h:r.z=z<;>simp[h]
theorem bat_some {bs:List Rc} {z:List Int} {r:Rc} (h:bat bs z=some r):r∈bs∧r.z=z:=⟨List.mem_of_find?_eq_some h,by simpa using List.find?_some h⟩
theorem bat_none {bs:List Rc} {z:List Int}:bat bs z=none↔∀ r∈bs,r.z≠z:=by
 unfold bat;rw[List.find?_eq_none];simp
theorem bat_mem:∀ {bs:List Rc},Rise bs→∀ {r:Rc},r∈bs→bat bs r.z=some r
 | [],_,r,h=>by cases h
 | x::xs,hR,r,h=>by
  obtain⟨h1,h2⟩:=List.pairwise_cons.1 hR;rw[bat_cons];rcases List.mem_cons.1 h with rfl | h
  ·rw[if_pos rfl]
  ·rw[if_neg (il_ne (h1 r h)),bat_mem h2 h]
theorem bat_low {bs:List Rc} {z:List Int} (h:∀ r∈bs,lessL z r.z=true):bat bs z=none:=bat_none.2 fun r hr e=>il_ne (h r hr) e.symm
theorem bk_ext:∀ {a b:List Rc},Rise a→Rise b→(∀ z,bat a z=bat b z)→a=b
 | [],[],_,_,_=>rfl
 | [],y::ys,_,_,h=>by have:=h y.z;rw[bat_nil,bat_cons,if_pos rfl]at this;cases this
 | x::xs,[],_,_,h=>by have:=h x.z;rw[bat_nil,bat_cons,if_pos rfl]at this;cases this
 | x::xs,y::ys,ha,hb,h=>by
  obtain⟨a1,a2⟩:=List.pairwise_cons.1 ha;obtain⟨b1,b2⟩:=List.pairwise_cons.1 hb;have hz:x.z=y.z:=by
   rcases il_tri x.z y.z with hl | he | hl
   ·have:=h x.z;rw[bat_cons,if_pos rfl,bat_low (bs:=y::ys) (fun r hr=>?_)]at this
    ·cases this
    ·rcases List.mem_cons.1 hr with rfl | hr
     ·exact hl
     ·exact il_trans hl (b1 r hr)
   ·exact he
   ·have:=h y.z;rw[bat_cons (r:=y),if_pos rfl,bat_low (bs:=x::xs) (fun r hr=>?_)]at this
    ·cases this
    ·rcases List.mem_cons.1 hr with rfl | hr
     ·exact hl
     ·exact il_trans hl (a1 r hr)
  have h0:=h x.z;rw[bat_cons,if_pos rfl,bat_cons,if_pos hz.symm]at h0;cases h0;rw[bk_ext a2 b2 fun z=>?_];by_cases hzz:x.z=z
  ·subst hzz;rw[bat_low a1,bat_low b1]
  ·have:=h z;rwa[bat_cons,if_neg hzz,bat_cons,if_neg hzz]at this
def bone (o:Option Rc) (r:Rc):Rc:=match o with | none=>r | some x=>jn x r
def bput:List Rc→Rc→List Rc
 | [],r=>[r]
 | x::xs,r=>if x.z=r.z then jn x r::xs else if lessL r.z x.z=true then r::x::xs else x::bput xs r
theorem bput_z:∀ {bs:List Rc} {r y:Rc},y∈bput bs r→y.z=r.z∨∃ x∈bs,x.z=y.z
 | [],r,y,h=>by rw[bput,List.mem_singleton]at h;exact .inl (by rw[h])
 | x::xs,r,y,h=>by
  rw[bput]at h
  split at h
  ·rename_i hz
   rcases List.mem_cons.1 h with rfl | h
   ·exact .inl (by rw[jn_z,hz])
   ·exact .inr ⟨y,List.mem_cons_of_mem _ h,rfl⟩
  ·split at h
   ·rcases List.mem_cons.1 h with rfl | h
    ·exact .inl rfl
    ·exact .inr ⟨y,h,rfl⟩
   ·rcases List.mem_cons.1 h with rfl | h
    ·exact .inr ⟨y,List.mem_cons_self,rfl⟩
    ·rcases bput_z h with h | ⟨x',hx',e⟩
     ·exact .inl h
     ·exact .inr ⟨x',List.mem_cons_of_mem _ hx',e⟩
theorem bput_rise:∀ {bs:List Rc} (r:Rc),Rise bs→Rise (bput bs r)
 | [],r,_=>List.pairwise_singleton _ _
 | x::xs,r,h=>by
  obtain⟨h1,h2⟩:=List.pairwise_cons.1 h;rw[bput]
  split
  ·exact List.pairwise_cons.2 ⟨fun y hy=>by rw[jn_z];exact h1 y hy,h2⟩
  ·rename_i hz
   split
   ·rename_i hl
    refine List.pairwise_cons.2 ⟨fun y hy=>?_,h⟩;rcases List.mem_cons.1 hy with rfl | hy
    ·exact hl
    ·exact il_trans hl (h1 y hy)
   ·rename_i hl
    refine List.pairwise_cons.2 ⟨fun y hy=>?_,bput_rise r h2⟩;rcases bput_z hy with e | ⟨x',hx',e⟩
    ·rw[e];rcases il_tri x.z r.z with h3 | h3 | h3
     ·exact h3
     ·exact absurd h3 hz
     ·exact absurd h3 hl
    ·rw[← e];exact h1 x' hx'
theorem bput_may:∀ {bs:List Rc} {r:Rc},AllMay bs→r.may=true→AllMay (bput bs r)
 | [],r,_,hr=>fun y hy=>by rw[bput,List.mem_singleton]at hy;rw[hy];exact hr
 | x::xs,r,h,hr=>fun y hy=>by
  have hx:=h x List.mem_cons_self;have hxs:AllMay xs:=fun y hy=>h y (List.mem_cons_of_mem _ hy);rw[bput]at hy
  split at hy
  ·rcases List.mem_cons.1 hy with rfl | hy
   ·exact jn_may hx hr
   ·exact hxs y hy
  ·split at hy
   ·rcases List.mem_cons.1 hy with rfl | hy
    ·exact hr
    ·exact h y hy
   ·rcases List.mem_cons.1 hy with rfl | hy
    ·exact hx
    ·exact bput_may hxs hr y hy
theorem bat_bput:∀ {bs:List Rc} (r:Rc) (z:List Int),Rise bs→bat (bput bs r) z=if r.z=z then some (bone (bat bs z) r) else bat bs z
 | [],r,z,_=>by rw[bput,bat_cons];rfl
 | x::xs,r,z,h=>by
  obtain⟨h1,h2⟩:=List.pairwise_cons.1 h;rw[bput]
  split
  ·rename_i hz
   rw[bat_cons,bat_cons,jn_z];by_cases hzz:r.z=z
   ·rw[if_pos (hz.trans hzz),if_pos hzz,if_pos (hz.trans hzz)];rfl
   ·rw[if_neg (by rw[hz];exact hzz),if_neg hzz,if_neg (by rw[hz];exact hzz)]
  ·rename_i hz
   split
   ·rename_i hl
    rw[bat_cons];by_cases hzz:r.z=z
    ·subst hzz;rw[if_pos rfl,if_pos rfl,bat_low fun y hy=>?_]
     ·rfl
     ·rcases List.mem_cons.1 hy with rfl | hy
      ·exact hl
      ·exact il_trans hl (h1 y hy)
    ·rw[if_neg hzz,if_neg hzz]
   ·rw[bat_cons,bat_bput r z h2,bat_cons];by_cases hzz:r.z=z
    ·subst hzz;rw[if_neg hz,if_pos rfl,if_pos rfl,if_neg hz]
    ·rw[if_neg hzz,if_neg hzz]
def bmerge:Option Rc→Option Rc→Option Rc
 | none,o=>o
 | some x,none=>some x
 | some x,some y=>some (jn x y)
theorem bmerge_bone (o:Option Rc) (r:Rc):bmerge o (some r)=some (bone o r):=by cases o<;>rfl
theorem bmerge_none (o:Option Rc):bmerge o none=o:=by cases o<;>rfl
theorem fold_rise:∀ {rs m:List Rc},Rise m→Rise (rs.foldl bput m)
 | [],_,h=>h
 | r::rs,m,h=>fold_rise (rs:=rs) (bput_rise r h)
theorem fold_may:∀ {rs m:List Rc},AllMay m→AllMay rs→AllMay (rs.foldl bput m)
 | [],_,h,_=>h
 | r::rs,m,h,h2=>fold_may (rs:=rs) (bput_may h (h2 r List.mem_cons_self)) fun x hx=>h2 x (List.mem_cons_of_mem _ hx)
theorem bat_fold:∀ {rs m:List Rc} (z:List Int),Rise m→Rise rs→bat (rs.foldl bput m) z=bmerge (bat m z) (bat rs z)
 | [],m,z,_,_=>by rw[bat_nil,bmerge_none];rfl
 | r::rs,m,z,hm,hr=>by
  obtain⟨h1,h2⟩:=List.pairwise_cons.1 hr;rw[List.foldl_cons,bat_fold z (bput_rise r hm) h2,bat_bput r z hm,bat_cons];by_cases hz:r.z=z
  ·subst hz;rw[if_pos rfl,if_pos rfl,bat_low h1,bmerge_none,bmerge_bone]
  ·rw[if_neg hz,if_neg hz]
def bjoin (a b:List Rc):List Rc:=(a++b).foldl bput []
theorem rise_nil:Rise []:=List.Pairwise.nil
theorem bjoin_rise (a b:List Rc):Rise (bjoin a b):=fold_rise rise_nil
theorem bjoin_may {a b:List Rc} (h1:AllMay a) (h2:AllMay b):AllMay (bjoin a b):=fold_may (fun x hx=>by cases hx) fun x hx=>by
 rcases List.mem_append.1 hx with h | h
 ·exact h1 x h
 ·exact h2 x h
theorem bat_bjoin {a b:List Rc} (h1:Rise a) (h2:Rise b) (z:List Int):bat (bjoin a b) z=bmerge (bat a z) (bat b z):=by
 unfold bjoin;rw[List.foldl_append,bat_fold z (fold_rise rise_nil) h2,bat_fold z rise_nil h1,bat_nil]
 rfl
theorem bat_may {a:List Rc} (h:AllMay a) {z:List Int} {r:Rc} (e:bat a z=some r):r.may=true∧r.z=z:=⟨h r (bat_some e).1,(bat_some e).2⟩
theorem bmerge_self {a:List Rc} (h:AllMay a) (z:List Int):bmerge (bat a z) (bat a z)=bat a z:=by
 cases e:bat a z with
 | none=>rfl
 | some r=>exact congrArg some (jn_self (bat_may h e).1)
theorem bmerge_comm {a b:List Rc} (ha:AllMay a) (hb:AllMay b) (z:List Int):bmerge (bat a z) (bat b z)=bmerge (bat b z) (bat a z):=by
 cases e:bat a z with
 | none=>rw[bmerge_none];rfl
 | some r=>
  cases f:bat b z with
  | none=>rfl
  | some s=>exact congrArg some (jn_comm (bat_may ha e).1 (bat_may hb f).1 ((bat_may ha e).2.trans (bat_may hb f).2.symm))
theorem bmerge_assoc {a b c:List Rc} (ha:AllMay a) (hb:AllMay b) (hc:AllMay c) (z:List Int):bmerge (bmerge (bat a z) (bat b z)) (bat c z)=bmerge (bat a z) (bmerge (bat b z) (bat c z)):=by
 cases e:bat a z with
 | none=>rfl
 | some r=>
  cases f:bat b z with
  | none=>rw[bmerge_none];rfl
  | some s=>
   cases g:bat c z with
   | none=>rw[bmerge_none,bmerge_none]
   | some t=>exact congrArg some (jn_assoc (bat_may ha e).1 (bat_may hb f).1 (bat_may hc g).1 ((bat_may ha e).2.trans (bat_may hb f).2.symm) ((bat_may hb f).2.trans (bat_may hc g).2.symm))
theorem bjoin_self {a:List Rc} (h1:AllMay a) (h2:Rise a):bjoin a a=a:=bk_ext (bjoin_rise _ _) h2 fun z=>by rw[bat_bjoin h2 h2,bmerge_self h1]
theorem bjoin_comm {a b:List Rc} (ha:AllMay a) (hb:AllMay b) (h1:Rise a) (h2:Rise b):bjoin a b=bjoin b a:=bk_ext (bjoin_rise _ _) (bjoin_rise _ _) fun z=>by rw[bat_bjoin h1 h2,bat_bjoin h2 h1,bmerge_comm ha hb]
theorem bjoin_assoc {a b c:List Rc} (ha:AllMay a) (hb:AllMay b) (hc:AllMay c) (h1:Rise a) (h2:Rise b) (h3:Rise c):bjoin (bjoin a b) c=bjoin a (bjoin b c):=
 bk_ext (bjoin_rise _ _) (bjoin_rise _ _) fun z=>by rw[bat_bjoin (bjoin_rise _ _) h3,bat_bjoin h1 h2,bat_bjoin h1 (bjoin_rise _ _),bat_bjoin h2 h3,bmerge_assoc ha hb hc]
def bjE (a b:List Rc):Int×List Rc:=if (bmay a && bmay b)=true then (if 10<(bjoin a b).length then (4,[]) else (0,bjoin a b)) else (1,[])
noncomputable def bsame:List Rc→List Rc→Bool
 | [],[]=>true
 | x::xs,y::ys=>x.same y && bsame xs ys
 | _,_=>false
theorem bsame_iff:∀ {a b:List Rc},bsame a b=true↔a=b
 | [],[]=>by simp[bsame]
 | [],_::_=>by simp[bsame]
 | _::_,[]=>by simp[bsame]
 | x::xs,y::ys=>by simp[bsame,Rc.same_iff,bsame_iff (a:=xs) (b:=ys)]
theorem bsame_self (a:List Rc):bsame a a=true:=bsame_iff.2 rfl
noncomputable def bleq (a b:List Rc):Bool:=decide ((bjE a b).1=0) && bsame (bjE a b).2 b
theorem bjE_no {a b:List Rc} (h:(bmay a && bmay b)=false):bjE a b=(1,[]):=by unfold bjE;rw[h];rfl
theorem bjE_large {a b:List Rc} (h1:bmay a=true) (h2:bmay b=true) (h:10<(bjoin a b).length):bjE a b=(4,[]):=by unfold bjE;rw[h1,h2,if_pos (by rfl),if_pos h]
theorem bjE_yes {a b:List Rc} (h1:bmay a=true) (h2:bmay b=true) (h:(bjoin a b).length≤10):bjE a b=(0,bjoin a b):=by unfold bjE;rw[h1,h2,if_pos (by rfl),if_neg (by omega)]
theorem bjE_ok {a b:List Rc} (h:(bjE a b).1=0):bmay a=true∧bmay b=true∧(bjoin a b).length≤10∧(bjE a b).2=bjoin a b:=by
 cases hm:(bmay a && bmay b) with
 | false=>rw[bjE_no hm]at h;cases h
 | true=>
  simp only[Bool.and_eq_true]at hm;by_cases hl:10<(bjoin a b).length
  ·rw[bjE_large hm.1 hm.2 hl]at h;cases h
  ·exact⟨hm.1,hm.2,by omega,by rw[bjE_yes hm.1 hm.2 (by omega)]⟩
theorem bjoin_bmay {a b:List Rc} (h1:bmay a=true) (h2:bmay b=true) (h:(bjoin a b).length≤10):bmay (bjoin a b)=true:=
 bmay_iff.2 ⟨h,bjoin_may (bmay_iff.1 h1).2.1 (bmay_iff.1 h2).2.1,bjoin_rise _ _⟩
theorem bleq_iff {a b:List Rc}:bleq a b=true↔(bmay a=true∧bmay b=true∧bjoin a b=b):=by
 unfold bleq;simp only[Bool.and_eq_true,decide_eq_true_eq,bsame_iff]
 constructor
 ·rintro⟨h1,h2⟩;obtain⟨m1,m2,_,e⟩:=bjE_ok h1;exact⟨m1,m2,e.symm.trans h2⟩
 ·rintro⟨h1,h2,h3⟩;rw[bjE_yes h1 h2 (by rw[h3];exact (bmay_iff.1 h2).1)];exact⟨rfl,h3⟩
theorem bleq_refl {a:List Rc}:bleq a a=bmay a:=by
 cases h:bmay a with
 | false=>unfold bleq;rw[bjE_no (by rw[h];rfl)];rfl
 | true=>exact bleq_iff.2 ⟨h,h,bjoin_self (bmay_iff.1 h).2.1 (bmay_iff.1 h).2.2⟩
theorem bleq_trans {a b c:List Rc} (h1:bleq a b=true) (h2:bleq b c=true):bleq a c=true:=by
 obtain⟨m1,m2,e1⟩:=bleq_iff.1 h1;obtain⟨_,m3,e2⟩:=bleq_iff.1 h2;refine bleq_iff.2 ⟨m1,m3,?_⟩;rw[← e2,← bjoin_assoc (bmay_iff.1 m1).2.1 (bmay_iff.1 m2).2.1 (bmay_iff.1 m3).2.1 (bmay_iff.1 m1).2.2 (bmay_iff.1 m2).2.2 (bmay_iff.1 m3).2.2,e1]
theorem bleq_join1 {a b:List Rc} (h1:bmay a=true) (h2:bmay b=true) (h:(bjoin a b).length≤10):bleq a (bjoin a b)=true:=by
 refine bleq_iff.2 ⟨h1,bjoin_bmay h1 h2 h,?_⟩;rw[← bjoin_assoc (bmay_iff.1 h1).2.1 (bmay_iff.1 h1).2.1 (bmay_iff.1 h2).2.1 (bmay_iff.1 h1).2.2 (bmay_iff.1 h1).2.2 (bmay_iff.1 h2).2.2,bjoin_self (bmay_iff.1 h1).2.1 (bmay_iff.1 h1).2.2]
theorem bleq_join2 {a b:List Rc} (h1:bmay a=true) (h2:bmay b=true) (h:(bjoin a b).length≤10):bleq b (bjoin a b)=true:=by
 have hc:=bjoin_comm (bmay_iff.1 h1).2.1 (bmay_iff.1 h2).2.1 (bmay_iff.1 h1).2.2 (bmay_iff.1 h2).2.2;rw[hc]at h ⊢;exact bleq_join1 h2 h1 h
def mput (m:List Rc) (r:Rc):List Rc:=match bat m r.z with | none=>m++[r] | some _=>m.map fun x=>if x.z=r.z then jn x r else x
def Keys1 (m:List Rc):Prop:=(m.map (·.z)).Nodup
theorem bat_append (m:List Rc) (r:Rc) (z:List Int):bat (m++[r]) z=(bat m z).or (if r.z=z then some r else none):=by
 unfold bat;rw[List.find?_append];by_cases h:r.z=z<;>simp[h]
theorem bat_map_jn (r:Rc) (z:List Int):∀ m:List Rc,bat (m.map fun x=>if x.z=r.z then jn x r else x) z=if r.z=z then (bat m z).map (fun x=>jn x r) else bat m z
 | []=>by rw[List.map_nil,bat_nil];simp
 | x::m=>by
  rw[List.map_cons,bat_cons,bat_map_jn r z m,bat_cons];by_cases hx:x.z=r.z
  ·rw[if_pos hx,jn_z];by_cases hz:r.z=z
   ·rw[if_pos (hx.trans hz),if_pos hz,if_pos (hx.trans hz)];rfl
   ·rw[if_neg (by rw[hx];exact hz),if_neg hz,if_neg hz,if_neg (by rw[hx];exact hz)]
  ·rw[if_neg hx];by_cases hz:r.z=z
   ·rw[if_pos hz,if_neg (by rw[← hz];exact hx),if_pos hz,if_neg (by rw[← hz];exact hx)]
   ·rw[if_neg hz,if_neg hz]
theorem bat_mput (m:List Rc) (r:Rc) (z:List Int):bat (mput m r) z=if r.z=z then some (bone (bat m z) r) else bat m z:=by
 unfold mput;cases e:bat m r.z with
 | none=>
  dsimp only;rw[bat_append];by_cases hz:r.z=z
  ·subst hz;rw[if_pos rfl,if_pos rfl,e];rfl
  ·rw[if_neg hz,if_neg hz,Option.or_none]
 | some x=>
  dsimp only;rw[bat_map_jn];by_cases hz:r.z=z
  ·subst hz;rw[if_pos rfl,if_pos rfl,e];rfl
  ·rw[if_neg hz,if_neg hz]
theorem map_jn_z (r:Rc) (m:List Rc):(m.map fun x=>if x.z=r.z then jn x r else x).map (·.z)=m.map (·.z):=by
 rw[List.map_map];apply List.map_congr_left;intro x _;simp only[Function.comp]
 split
 ·rfl
 ·rfl
theorem mput_keys {m:List Rc} {r:Rc} (h:Keys1 m):Keys1 (mput m r):=by
 unfold mput;cases e:bat m r.z with
 | none=>
  dsimp only;unfold Keys1;rw[List.map_append,List.nodup_append];refine⟨h,by simp,?_⟩;intro a ha b hb e2;simp only[List.map_cons,List.map_nil,List.mem_singleton]at hb;obtain⟨x,hx,rfl⟩:=List.mem_map.1 ha;exact bat_none.1 e x hx (e2.trans hb)
 | some x=>
  dsimp only;unfold Keys1;rw[map_jn_z];exact h
theorem mfold_bat:∀ (rs m m':List Rc),Rise m'→(∀ z,bat m z=bat m' z)→∀ z,bat (rs.foldl mput m) z=bat (rs.foldl bput m') z
 | [],_,_,_,h,z=>h z
 | r::rs,m,m',hr,h,z=>mfold_bat rs _ _ (bput_rise r hr) (fun z=>by rw[bat_mput,bat_bput r z hr,h]) z
theorem mfold_keys:∀ (rs m:List Rc),Keys1 m→Keys1 (rs.foldl mput m)
 | [],_,h=>h
 | r::rs,m,h=>mfold_keys rs _ (mput_keys h)
theorem bat_perm {m m':List Rc} (hp:m.Perm m') (h:Keys1 m) (z:List Int):bat m z=bat m' z:=by
 have key:∀ {l:List Rc},Keys1 l→∀ {r:Rc},r∈l→bat l r.z=some r:=fun {l} hl=>by
  induction l with
  | nil=>intro r hr;cases hr
  | cons x xs ih=>
   intro r hr;unfold Keys1 at hl;rw[List.map_cons,List.nodup_cons]at hl;rw[bat_cons];rcases List.mem_cons.1 hr with rfl | hr
   ·rw[if_pos rfl]
   ·rw[if_neg (fun e=>hl.1 (by rw[e];exact List.mem_map_of_mem hr)),ih hl.2 hr]
 have h':Keys1 m':=(hp.map _).nodup_iff.1 h;cases e:bat m z with
 | none=>
  refine (bat_none.2 fun r hr=>?_).symm;exact bat_none.1 e r (hp.mem_iff.2 hr)
 | some r=>
  obtain⟨h1,rfl⟩:=bat_some e;exact (key h' (hp.mem_iff.1 h1)).symm
theorem sorted_join {a b ys:List Rc} (hp:ys.Perm ((a++b).foldl mput [])) (hr:Rise ys):ys=bjoin a b:=by
 have hk:Keys1 ((a++b).foldl mput []):=mfold_keys _ _ List.nodup_nil;refine bk_ext hr (bjoin_rise a b) fun z=>?_;rw[← bat_perm hp.symm hk z];exact mfold_bat _ _ _ rise_nil (fun _=>rfl) z
end
section
open Go.RowKit WM
theorem ins_perm:∀ {bs:List Rc} {r:Rc},(∀ x∈bs,x.z≠r.z)→(bput bs r).Perm (r::bs)
 | [],r,_=>List.Perm.refl _
 | x::xs,r,h=>by
  rw[bput,if_neg (h x List.mem_cons_self)]
  split
  ·exact List.Perm.refl _
  ·exact ((ins_perm fun y hy=>h y (List.mem_cons_of_mem _ hy)).cons x).trans (List.Perm.swap r x xs)
theorem sortable:∀ (m:List Rc),Keys1 m→∃ ys:List Rc,ys.Perm m∧Rise ys
 | [],_=>⟨[],List.Perm.refl _,rise_nil⟩
 | r::m,h=>by
  unfold Keys1 at h;rw[List.map_cons,List.nodup_cons]at h;obtain⟨ys,hp,hr⟩:=sortable m h.2;refine⟨bput ys r,(ins_perm fun x hx e=>h.1 ?_).trans (hp.cons r),bput_rise r hr⟩;rw[← e];exact List.mem_map_of_mem (hp.mem_iff.1 hx)
end
end
section
open Go.RowKit WM
theorem xmay_any (x:RcA) (w:World) (h:RvAt w x):Calls Tryz.prog 58 #[.agg x.cells] w fun e w'=>e=.returned (.bool x.R.may)∧Below w.heap.size w w':=may_any' x.R x.A x.c w h.1 h.2
theorem xsame_any (x y:RcA) (w:World) (h:RvAt w x) (k:RvAt w y):Calls Tryz.prog 56 #[.agg x.cells,.agg y.cells] w fun e w'=>e=.returned (.bool (x.R.same y.R))∧Below w.heap.size w w':=
 same_any' x.R y.R x.A y.A x.c y.c w h.1 k.1 h.2 k.2
theorem xjoin_any (x y:RcA) (w:World) (hlaid:Laid w) (h:RvAt w x) (k:RvAt w y):Calls Tryz.prog 82 #[.agg x.cells,.agg y.cells] w fun e w'=>
  ∃ j:RcA,e=.returned (.tuple #[.agg j.cells,.bool (x.R.join y.R).isSome])∧j.R=(x.R.join y.R).getD rc0∧RvAt w' j∧Below w.heap.size w w':=
 (join_any x.R y.R x.A y.A x.c y.c w hlaid h.1 k.1 h.2 k.2).mono fun e w' hp=>by
  obtain⟨A,c,he,hf,hb⟩:=hp;exact⟨⟨(x.R.join y.R).getD rc0,A,c⟩,he,rfl,⟨Rc.getD_ok h.1,hf⟩,hb⟩
theorem xfew_any (x:RcA) (w:World) (h:RvAt w x):Calls Tryz.prog 12 #[.agg x.cells] w fun e w'=>e=.returned (.bool (fewR x.R.fs))∧Below w.heap.size w w':=fewR_any x.R x.A x.c w h.1 h.2
def XAt (w:World) (b:Nat) (x:RcA):Prop:=x.R.z.length=16∧w.heap[b]?=some (.cells x.cells 36)
section
variable {w w':World} {b B:Nat} {x:RcA}
theorem XAt.rc (h:XAt w b x):RcAt w b x.R.z x.R.n x.R.r x.s:=h
theorem XAt.lt (h:XAt w b x):b<w.heap.size:=h.rc.lt
theorem XAt.below (h:XAt w b x) (hb:Below B w w') (hB:b<B):XAt w' b x:=h.rc.below hb hB
theorem XAt.same (h:XAt w b x) (hb:w'.heap[b]?=w.heap[b]?):XAt w' b x:=⟨h.1,hb.trans h.2⟩
theorem XAt.old (h:XAt w b x) (o:Obj):XAt (w.alloc o) b x:=h.rc.old o
theorem XAt.new (w:World) (hz:x.R.z.length=16):XAt (w.alloc (.cells x.cells 36)) w.heap.size x:=⟨hz,heap_alloc_new w _⟩
theorem XAt.rec (h:XAt w b x):RecAt w b 0 x:=RecAt.of_row h.1 h.2
theorem XAt.load (h:XAt w b x):(loadVar 36 ⟨b,0,none⟩).run Tryz.prog w=.ok (.agg x.cells) w:=h.rec.load
theorem XAt.load_id (h:XAt w b x):(loadVar 31 ⟨b,0,none⟩).run Tryz.prog w=.ok (.agg (bvals x.R.z)) w:=h.rec.load_id
theorem XAt.c16 (h:XAt w b x):w.cell? ⟨b,16,none⟩=some (.int .i64 x.R.n):=h.rc.c16
theorem XAt.c17 (h:XAt w b x):w.cell? ⟨b,17,none⟩=some (.int .i64 x.R.r):=h.rc.c17
theorem XAt.c18 (h:XAt w b x):w.cell? ⟨b,18,none⟩=some (.slice x.A x.R.fs.length x.c):=h.rc.c18
theorem XAt.fz (h:XAt w b x) (j:Nat):w.frozen? ⟨b,j,none⟩=false:=h.rc.fz j
end
theorem zrec:rcA0.cells=rcells z16 0 0 (.slice none 0 0):=rfl
theorem zeroX (w:World):(zeroValue 36).run Tryz.prog w=.ok (.agg rcA0.cells) w:=zeroRec w
theorem build0 (w:World):(Instr.build 36 #[]).run Tryz.prog w=.ok (.agg rcA0.cells) w:=build_none w
theorem x_one (x:RcA):x.cells.all (·.oneCell')=true:=rcells_one rfl
theorem x_size {x:RcA} (h:x.R.z.length=16):(Tryz.prog.info? 36).map (·.size)=some x.cells.size:=size_rcells h _ _ _
theorem wpList_store_newx {w:World} {ops:Array Oper} {rest:List Oper} {o:Oper} {a:Act} {Q:Exit→Act→World→Prop} (hgd:o.guard=none) (p q:Operand) (hop:o.op=.store 36 p q)
  (b:Nat) (hb:b=w.heap.size) (hx:a.eval p=.pointer (some ⟨b,0,none⟩)) (x:RcA) (hy:a.eval q=.agg x.cells) (hz:x.R.z.length=16)
  (hK:∀ w',Below w.heap.size w w'→XAt w' b x→w'.heap.size=w.heap.size+1→wpList Tryz.prog ops Q rest (a.put o.dst undef) w'):wpList Tryz.prog ops Q (o::rest) a (w.alloc (.cells rcA0.cells 36)):=by
 subst hb;refine wpList_store_row hgd 36 p q hop w.heap.size x.cells hx hy 36 _ (RcAt.new w z16_len 0 0 (.slice none 0 0)).hp (x_size hz) ((rcells_size z16_len _ _ _).trans (cells_len hz).symm) (x_one x) ?_;rw[zrec,putR];exact hK _ ((Below.refl w.heap.size w).alloc Nl _) (XAt.new w hz) (World.size_alloc _ _)
theorem wpList_store_oldx {w:World} {ops:Array Oper} {rest:List Oper} {o:Oper} {a:Act} {Q:Exit→Act→World→Prop} (hgd:o.guard=none) (p q:Operand) (hop:o.op=.store 36 p q)
  (b:Nat) (y:RcA) (hb:XAt w b y) (hx:a.eval p=.pointer (some ⟨b,0,none⟩)) (x:RcA) (hy:a.eval q=.agg x.cells) (hz:x.R.z.length=16)
  (hK:∀ w',w.grownBy w' (some b)→XAt w' b x→wpList Tryz.prog ops Q rest (a.put o.dst undef) w'):wpList Tryz.prog ops Q (o::rest) a w:=by
 refine wpList_store_row hgd 36 p q hop b x.cells hx hy 36 _ hb.2 (x_size hz) (by rw[cells_len hb.1,cells_len hz]) (x_one x) ?_;exact hK _ (grownBy_setRow w b _) (hb.rc.putAll hz)
theorem bk_one {v:Value} (hv:v.oneCell'=true):(#[v]:Array Value).all (·.oneCell')=true:=by
 rw[Array.all_eq_true_iff_forall_mem];intro u hu;rw[Array.mem_singleton.1 hu];exact hv
theorem wpList_store_oldb {w:World} {ops:Array Oper} {rest:List Oper} {o:Oper} {a:Act} {Q:Exit→Act→World→Prop} (hgd:o.guard=none) (p q:Operand) (hop:o.op=.store 24 p q)
  (g:Nat) (v:Value) (hb:BoAt w g v) (hx:a.eval p=.pointer (some ⟨g,0,none⟩)) (u:Value) (hy:a.eval q=.agg #[u]) (hu:u.oneCell'=true)
  (hK:∀ w',w.grownBy w' (some g)→BoAt w' g u→wpList Tryz.prog ops Q rest (a.put o.dst undef) w'):wpList Tryz.prog ops Q (o::rest) a w:=by
 refine wpList_store_row hgd 24 p q hop g #[u] hx hy 24 _ hb sizeBook rfl (bk_one hu) ?_;exact hK _ (grownBy_setRow w g _) (hb.put u)
theorem FsAt.kept' {w w':World} {A:Option Addr} {c:Nat} {fs:List Fld} {b:Nat} (h:FsAt w A c fs) (hg:w.grownBy w' (some b)) (hne:∀ off,0<fs.length→A=some ⟨b,off,none⟩→False):FsAt w' A c fs:=by
 obtain⟨h1,h2,h3,h4⟩:=h;refine⟨h1,h2,h3,fun h0=>?_⟩;obtain⟨b',off,rfl,hlt,hc⟩:=h4 h0;have hn:some b'≠some b:=fun e=>hne off h0 (by rw[Option.some.inj e]);refine⟨b',off,rfl,Nat.lt_of_lt_of_le hlt hg.size,fun i hi=>?_⟩;obtain⟨c0,c1,c2,c3⟩:=hc i hi;have hq:∀ o,w'.cell? ⟨b',o,none⟩=w.cell? ⟨b',o,none⟩:=fun o=>by simp only[World.cell?,hg.block b' hlt hn]
 exact⟨(hq _).trans c0,(hq _).trans c1,(hq _).trans c2,(hq _).trans c3⟩
theorem FsAt.str {w:World} {b off c:Nat} {fs:List Fld} (h:FsAt w (some ⟨b,off,none⟩) c fs) (h0:0<fs.length):∃ s,w.cell? ⟨b,off+3,none⟩=some (.string s):=by
 obtain⟨_,_,_,h4⟩:=h;obtain⟨b',off',he,_,hc⟩:=h4 h0
 injection he with he
 injection he with he1 he2
 subst he1 he2;have:=(hc 0 h0).2.2.2;rw[Nat.zero_mul,Nat.add_zero]at this;exact⟨_,this⟩
theorem cs_nostr (x:RcA):∀ u∈x.cs,∀ s,u≠.string s:=by
 intro u hu s e;subst e;simp only[RcA.cs,RcA.cells,rcells,RcA.s,List.mem_append,List.mem_map,List.mem_cons,List.not_mem_nil,or_false]at hu;rcases hu with ⟨x,_,hx⟩ | hx | hx | hx<;>cases hx
theorem RvAt.kept_x {w w':World} {y x:RcA} {b:Nat} (h:RvAt w y) (hg:w.grownBy w' (some b)) (hx:XAt w b x):RvAt w' y:=⟨h.1,h.2.kept' hg fun off h0 e=>by
 have hF:=h.2;rw[e]at hF;obtain⟨s,hs⟩:=hF.str h0;rw[cell_of_row _ _ _ _ _ _ hx.2]at hs;exact cs_nostr x _ (by rw[RcA.cs];exact List.mem_of_getElem? (by rw[Array.getElem?_toList];exact hs)) s rfl⟩
theorem RvAt.kept_bo {w w':World} {y:RcA} {b:Nat} {v:Value} (h:RvAt w y) (hg:w.grownBy w' (some b)) (hx:BoAt w b v):RvAt w' y:=⟨h.1,h.2.kept' hg fun off h0 e=>by
 have hF:=h.2;rw[e]at hF;obtain⟨s,hs⟩:=hF.str h0;rw[cell_of_row _ _ _ _ _ _ hx]at hs;simp at hs⟩
theorem RvAt.kept_map {w w':World} {y:RcA} {b:Nat} {es:Array MapEntry} {cl:Nat} (h:RvAt w y) (hg:w.grownBy w' (some b)) (hx:w.heap[b]?=some (.map es cl)):RvAt w' y:=⟨h.1,h.2.kept' hg fun off h0 e=>by
 have hF:=h.2;rw[e]at hF;obtain⟨s,hs⟩:=hF.str h0;simp[World.cell?,hx]at hs⟩
theorem Tta36 {p:Prop} (h:p:=by
  obtain⟨b',off,e,hlt,hc⟩:=h4 h0;have hn:b'≠b:=by
   rintro rfl;have h6:=hc 0 h0;have h7:=h6.2 1 (by omega);rw[cell_of_row _ _ _ _ _ _ hx,List.getElem?_eq_getElem (by rw[cs_len h6.1];omega)]at h7;simp at h7
  exact⟨b',off,e,Nat.lt_of_lt_of_le hlt hg.size,fun i hi=>(hc i hi).same (hg.block b' hlt (fun e=>hn (Option.some.inj e)))⟩
 ):p:=h
theorem BkAt.kept_bo {w w':World} {d:Bk} {b:Nat} {v:Value} (h:BkAt w d) (hg:w.grownBy w' (some b)) (hx:BoAt w b v):BkAt w' d:=by
 obtain⟨h1,h2,h3,h4,h5⟩:=h;refine⟨h1,h2,h3,fun h0=>?_,fun x hxx=>(h5 x hxx).kept_bo hg hx⟩;exact Tta36
end
section
open Go.RowKit WM
def prevZ (xs:List RcA) (k:Nat):Option (List Int):=if k=0 then none else some (xs.getD (k - 1) rcA0).R.z
theorem okB_drop {xs:List RcA} {k:Nat} (p:Option (List Int)) (hk:k<xs.length):okB p ((xs.drop k).map (·.R)) =
  ((xs.getD k rcA0).R.may && pzok p (xs.getD k rcA0).R.z && okB (some (xs.getD k rcA0).R.z) ((xs.drop (k+1)).map (·.R))):=by
 rw[List.drop_eq_getElem_cons hk,List.map_cons,okB];simp only[List.getD,List.getElem?_eq_getElem hk,Option.getD_some]
theorem prevZ_succ (xs:List RcA) (k:Nat):prevZ xs (k+1)=some (xs.getD k rcA0).R.z:=by
 unfold prevZ;rw[if_neg (by omega),Nat.add_sub_cancel]
theorem Ttb16 {p:Prop} (h:p:=by
  refine wpG_done (by kernel_rfl) ?_ _;intro w9 hSw _;have B9:=Yy (HB2.out.trans (hSw.mono HB2.out.size));have BO9:=Yy (B2.out.below hSw B2.out.lt);clear hSw;go_wp2;go_ret;exact⟨by rw[HF.out];rfl,B9.out⟩
 ):p:=h
theorem Tta52 {p:Prop} (h:p:=by
  refine YGa 19 (some 36) rfl ?_;exact Ttb16
 ):p:=h
theorem Ttb10 {p:Prop} (h:p:=by
  refine wpG_done (by kernel_rfl) ?_ _;intro w9 hSw _;have B9:=Yy (HB2.out.trans (hSw.mono HB2.out.size));have BO9:=Yy (B2.out.below hSw B2.out.lt);clear hSw;go_wp2;go_roundw
  case rel=>exact⟨k+1,by omega,by go_num,BO9.out,B9.out,by rw[HPQ.out];exact HF.out⟩
  case measure=>simp[intOf];omega
 ):p:=h
theorem Tta32 {p:Prop} (h:p:=by
  refine YGa 18 (some 35) rfl ?_;refine YGa 19 (some 36) rfl ?_;exact Ttb10
 ):p:=h
theorem bmay_any (b:Bk) (w:World) (h:BkAt w b):
  Calls Tryz.prog 27 #[.agg #[.slice b.A b.xs.length b.c]] w fun e w'=>e=.returned (.bool (bmay b.rs))∧Below w.heap.size w w':=by
 obtain⟨xs,A,c⟩:=b;dsimp only;have S0:=Yy (BoAt.new w (.slice A xs.length c));have HB:=Yy ((Below.refl w.heap.size w).alloc Nl (.cells #[.slice A xs.length c] 24));have s0:=S0.out.c0;have HRV:=Yy (fun i (hi:i<xs.length)=>RsAt.rv h hi);obtain⟨hc1,hc2,hc3,hcell,_⟩:=h;dsimp only at hc1 hc2 hc3 hcell HRV;simp only[maxLen]at hc2;have HC:=Yy hcell;have HV:Hid (bmay (Bk.rs ⟨xs,A,c⟩)=(decide (xs.length≤10) && okB (prevZ xs 0) ((xs.drop 0).map (·.R)))):=Yy (by unfold bmay Bk.rs;rw[List.length_map];rfl);clear hcell;have hz:=zeroX;generalize bmay (Bk.rs ⟨xs,A,c⟩)=V at HV ⊢;by_cases h10:xs.length≤10
 ·have hV2:=HV.out;rw[decide_eq_true h10,Bool.true_and]at hV2;have HV2:=Yy hV2;generalize hlen:xs.length=len at *;have HLN:=Yy hlen;have t1:¬ 10<(len:Int):=by omega
  clear hV2 hlen;go_enter Tryz.func27,Tryz.ntmps27;go_wp2;clear s0;go_loopw [12] (fun i wr=>∃ k:Nat,k≤len∧i=.int .i64 k∧BoAt wr w.heap.size (.slice A len c)∧Below w.heap.size w wr∧V=okB (prevZ xs k) ((xs.drop k).map (·.R))) (fun i _=>len - (intOf i).toNat)
  case atStart=>exact⟨0,Nat.zero_le _,rfl,S0.out,HB.out,HV2.out⟩
  case round=>
   obtain⟨k,hk,rfl,hs,hb,hf⟩:=hrel;by_cases hlt:k<len
   ·obtain⟨b0,off,rfl,hb0,hcc⟩:=HC.out (by omega);have hx:=(hcc k hlt).same (hb.block b0 hb0);have IX:=ix_rec b0 off len c k hlt k rfl;have HXV:=Yy ((HRV.out k hlt).below hb Nl);rw[okB_drop _ (by rw[HLN.out];exact hlt),← prevZ_succ]at hf;have HZ16:=Yy HXV.out.len;have HBS:=Yy (And.intro hs hb);have hb02:=Nat.lt_of_lt_of_le hb0 hb.size;have LX:=Yy hx.load;have HY:Hid (0<k→∃ y:RcA,prevZ xs k=some y.R.z∧RvAt wr y∧RecAt wr b0 (off+(k - 1)*19) y):=Yy (fun h0=>⟨xs.getD (k - 1) rcA0,by unfold prevZ;rw[if_neg (by omega)],(HRV.out (k - 1) (by omega)).below hb Nl,(hcc (k - 1) (by omega)).same (hb.block b0 hb0)⟩);generalize xs.getD k rcA0=x at *;generalize hpzq:prevZ xs (k+1)=pz at *;have HPQ:=Yy hpzq;generalize hox:off+k*19=ox at *;clear hcc hs hb hx hox hpzq;have hS3:=HBS.out.1.c0;cases hm:x.R.may
    ·rw[hm]at hf;simp only[Bool.false_and]at hf;have HF:=Yy hf;have HMY:=Yy hm;clear hf hm;go_wp2_with (first | ((with_reducible refine YyL 36 (.tmp 15) ⟨b0,ox,none⟩ LX.out ?_ ?_ ?_);rfl;rfl) | ((with_reducible refine wpList_store_newx (o:=⟨none,.store 36 (.tmp 4) (.tmp 16),_,_,_,_⟩) (w:=wr) ?_ (.tmp 4) (.tmp 16) ?_ wr.heap.size ?_ ?_ x ?_ HZ16.out ?_);rfl;rfl;rfl;rfl;rfl;intro w2 hb2 hx2 hs2;have X2:=Yy hx2;have HS2:=Yy hs2;have HW2:=Yy hb2;have HB2:=Yy (HBS.out.2.trans (hb2.mono HBS.out.2.size));have B2:=Yy (HBS.out.1.below hb2 HBS.out.1.lt);have HM:=Yy (fun (w9:World) (hS:Below w2.heap.size w2 w9)=>xmay_any x w9 ((HXV.out.below hb2 Nl).below hS Nl));rw[HMY.out]at HM;clear hb2 hx2 hs2));refine wp_region_G _ (by kernel_rfl) ?_;refine YGd 0 (some 17) (.agg x.cells) rfl (fun w9 hSw=>by exact exec_load_by 36 _ rfl ⟨wr.heap.size,0,none⟩ rfl (X2.out.below hSw X2.out.lt).load) ?_;refine YGj 1 (some 18) rfl HM.out ?_;refine YGa 2 (some 19) rfl ?_;refine YGa 3 (some 20) rfl ?_;refine YGo 4 (some 21) rfl ?_;refine YGo 5 (some 22) rfl ?_;refine YGo 6 (some 23) rfl ?_;refine YGo 7 (some 24) rfl ?_;refine YGo 8 (some 25) rfl ?_;refine YGo 9 (some 26) rfl ?_;refine YGo 10 (some 27) rfl ?_;refine YGo 11 (some 28) rfl ?_;refine YGo 12 (some 29) rfl ?_;refine YGo 13 (some 30) rfl ?_;refine YGo 14 (some 31) rfl ?_;refine YGo 15 (some 32) rfl ?_;refine YGo 16 (some 33) rfl ?_;refine YGo 17 (some 34) rfl ?_;refine YGo 18 (some 35) rfl ?_;exact Tta52
    ·rw[hm]at hf;simp only[Bool.true_and]at hf;have HMY:=Yy hm;clear hm;by_cases h0:k=0
     ·have HF:=Yy (show V=okB pz ((xs.drop (k+1)).map (·.R)) by rw[hf,prevZ,if_pos h0];rfl);have t3:¬ (0:Int)<(k:Int):=by omega
      clear hf h0;go_wp2_with (first | ((with_reducible refine YyL 36 (.tmp 15) ⟨b0,ox,none⟩ LX.out ?_ ?_ ?_);rfl;rfl) | ((with_reducible refine wpList_store_newx (o:=⟨none,.store 36 (.tmp 4) (.tmp 16),_,_,_,_⟩) (w:=wr) ?_ (.tmp 4) (.tmp 16) ?_ wr.heap.size ?_ ?_ x ?_ HZ16.out ?_);rfl;rfl;rfl;rfl;rfl;intro w2 hb2 hx2 hs2;have X2:=Yy hx2;have HS2:=Yy hs2;have HW2:=Yy hb2;have HB2:=Yy (HBS.out.2.trans (hb2.mono HBS.out.2.size));have B2:=Yy (HBS.out.1.below hb2 HBS.out.1.lt);have HM:=Yy (fun (w9:World) (hS:Below w2.heap.size w2 w9)=>xmay_any x w9 ((HXV.out.below hb2 Nl).below hS Nl));rw[HMY.out]at HM;clear hb2 hx2 hs2));refine wp_region_G _ (by kernel_rfl) ?_;refine YGd 0 (some 17) (.agg x.cells) rfl (fun w9 hSw=>by exact exec_load_by 36 _ rfl ⟨wr.heap.size,0,none⟩ rfl (X2.out.below hSw X2.out.lt).load) ?_;refine YGj 1 (some 18) rfl HM.out ?_;refine YGa 2 (some 19) rfl ?_;refine YGa 3 (some 20) rfl ?_;refine YGa 4 (some 21) rfl ?_;refine YGd 5 (some 22) (.bool false) rfl (fun w9 hSw=>by have q0:=decide_eq_false (show ¬ (0:Int)<(k:Int) by omega);first | (go_simp;done) | (go_simp;omega) | (go_simp;rfl) | (simp[go_sem,execOp,q0];done) | (simp[go_sem,execOp,q0];rfl)) ?_;refine YGa 6 (some 23) rfl ?_;refine YGo 7 (some 24) rfl ?_;refine YGo 8 (some 25) rfl ?_;refine YGo 9 (some 26) rfl ?_;refine YGo 10 (some 27) rfl ?_;refine YGo 11 (some 28) rfl ?_;refine YGo 12 (some 29) rfl ?_;refine YGo 13 (some 30) rfl ?_;refine YGo 14 (some 31) rfl ?_;refine YGo 15 (some 32) rfl ?_
      refine YGo 16 (some 33) rfl ?_;refine YGo 17 (some 34) rfl ?_;exact Tta32
     ·obtain⟨y,hpy,hyv,hya⟩:=HY.out (by omega);rw[hpy,pzok]at hf;have t3:(0:Int)<(k:Int):=by omega
      have IXY:=Yy (fun w9=>ix_rec b0 off len c (k - 1) (by omega) ((k:Int) - 1) (by omega) w9);have HYV:=Yy hyv;generalize hoy:off+(k - 1)*19=oy at *;have HYA:=Yy hya;clear hoy hyv hya hpy;cases hl:lessL y.R.z x.R.z
      ·rw[hl]at hf;simp only[Bool.false_and]at hf;have HF:=Yy hf;have HLS:=Yy hl;clear hf hl;go_wp2_with (first | ((with_reducible refine YyL 36 (.tmp 15) ⟨b0,ox,none⟩ LX.out ?_ ?_ ?_);rfl;rfl) | ((with_reducible refine wpList_store_newx (o:=⟨none,.store 36 (.tmp 4) (.tmp 16),_,_,_,_⟩) (w:=wr) ?_ (.tmp 4) (.tmp 16) ?_ wr.heap.size ?_ ?_ x ?_ HZ16.out ?_);rfl;rfl;rfl;rfl;rfl;intro w2 hb2 hx2 hs2;have X2:=Yy hx2;have HS2:=Yy hs2;have HW2:=Yy hb2;have HB2:=Yy (HBS.out.2.trans (hb2.mono HBS.out.2.size));have B2:=Yy (HBS.out.1.below hb2 HBS.out.1.lt);have HM:=Yy (fun (w9:World) (hS:Below w2.heap.size w2 w9)=>xmay_any x w9 ((HXV.out.below hb2 Nl).below hS Nl));rw[HMY.out]at HM;have Y2:=Yy (HYA.out.same (hb2.block b0 hb02));have HL:=Yy (fun (w9:World) (hS:Below w2.heap.size w2 w9)=>bless_any y.R.z x.R.z w9 HYV.out.1.2 HXV.out.1.2 HYV.out.len HXV.out.len);rw[HLS.out]at HL;have hb02:=Nat.lt_of_lt_of_le hb02 hb2.size;clear hb2 hx2 hs2));refine wp_region_G _ (by kernel_rfl) ?_;refine YGd 0 (some 17) (.agg x.cells) rfl (fun w9 hSw=>by exact exec_load_by 36 _ rfl ⟨wr.heap.size,0,none⟩ rfl (X2.out.below hSw X2.out.lt).load) ?_;refine YGj 1 (some 18) rfl HM.out ?_;refine YGa 2 (some 19) rfl ?_;refine YGa 3 (some 20) rfl ?_;refine YGa 4 (some 21) rfl ?_;refine YGd 5 (some 22) (.bool true) rfl (fun w9 hSw=>by have q0:=decide_eq_true (show (0:Int)<(k:Int) by omega);first | (go_simp;done) | (go_simp;omega) | (go_simp;rfl) | (simp[go_sem,execOp,q0];done) | (simp[go_sem,execOp,q0];rfl)) ?_
       refine YGa 6 (some 23) rfl ?_;refine YGa 7 (some 24) rfl ?_;refine YGb 8 (some 25) rfl (fun w9 hSw=>(B2.out.below hSw B2.out.lt).c0) ?_;refine YGa 9 (some 26) rfl ?_;refine YGd 10 (some 27) _ rfl (fun w9 hSw=>by have x1:IntKind.i64.wrap ((k:Int) - 1)=(k:Int) - 1:=IntWalk.i64_in _ (by omega);go_simp;try with_reducible rfl) ?_;refine YGb 11 (some 28) rfl (fun w9 hSw=>IXY.out w9) ?_;refine YGa 12 (some 29) rfl ?_;refine YGd 13 (some 30) (.agg (bvals y.R.z)) rfl (fun w9 hSw=>by exact exec_load_by 31 _ rfl ⟨b0,oy,none⟩ rfl (Y2.out.same (hSw.block b0 hb02)).load_id) ?_;refine YGa 14 (some 31) rfl ?_;refine YGd 15 (some 32) (.agg (bvals x.R.z)) rfl (fun w9 hSw=>by exact exec_load_by 31 _ rfl ⟨wr.heap.size,0,none⟩ rfl (X2.out.below hSw X2.out.lt).load_id) ?_;refine YGj 16 (some 33) rfl HL.out ?_;refine YGa 17 (some 34) rfl ?_;refine YGa 18 (some 35) rfl ?_;exact Tta52
      ·rw[hl]at hf;simp only[Bool.true_and]at hf;have HF:=Yy hf;have HLS:=Yy hl;clear hf hl;go_wp2_with (first | ((with_reducible refine YyL 36 (.tmp 15) ⟨b0,ox,none⟩ LX.out ?_ ?_ ?_);rfl;rfl) | ((with_reducible refine wpList_store_newx (o:=⟨none,.store 36 (.tmp 4) (.tmp 16),_,_,_,_⟩) (w:=wr) ?_ (.tmp 4) (.tmp 16) ?_ wr.heap.size ?_ ?_ x ?_ HZ16.out ?_);rfl;rfl;rfl;rfl;rfl;intro w2 hb2 hx2 hs2;have X2:=Yy hx2;have HS2:=Yy hs2;have HW2:=Yy hb2;have HB2:=Yy (HBS.out.2.trans (hb2.mono HBS.out.2.size));have B2:=Yy (HBS.out.1.below hb2 HBS.out.1.lt);have HM:=Yy (fun (w9:World) (hS:Below w2.heap.size w2 w9)=>xmay_any x w9 ((HXV.out.below hb2 Nl).below hS Nl));rw[HMY.out]at HM;have Y2:=Yy (HYA.out.same (hb2.block b0 hb02));have HL:=Yy (fun (w9:World) (hS:Below w2.heap.size w2 w9)=>bless_any y.R.z x.R.z w9 HYV.out.1.2 HXV.out.1.2 HYV.out.len HXV.out.len);rw[HLS.out]at HL;have hb02:=Nat.lt_of_lt_of_le hb02 hb2.size;clear hb2 hx2 hs2));refine wp_region_G _ (by kernel_rfl) ?_;refine YGd 0 (some 17) (.agg x.cells) rfl (fun w9 hSw=>by exact exec_load_by 36 _ rfl ⟨wr.heap.size,0,none⟩ rfl (X2.out.below hSw X2.out.lt).load) ?_;refine YGj 1 (some 18) rfl HM.out ?_;refine YGa 2 (some 19) rfl ?_;refine YGa 3 (some 20) rfl ?_;refine YGa 4 (some 21) rfl ?_;refine YGd 5 (some 22) (.bool true) rfl (fun w9 hSw=>by have q0:=decide_eq_true (show (0:Int)<(k:Int) by omega);first | (go_simp;done) | (go_simp;omega) | (go_simp;rfl) | (simp[go_sem,execOp,q0];done) | (simp[go_sem,execOp,q0];rfl)) ?_
       refine YGa 6 (some 23) rfl ?_;refine YGa 7 (some 24) rfl ?_;refine YGb 8 (some 25) rfl (fun w9 hSw=>(B2.out.below hSw B2.out.lt).c0) ?_;refine YGa 9 (some 26) rfl ?_;refine YGd 10 (some 27) _ rfl (fun w9 hSw=>by have x1:IntKind.i64.wrap ((k:Int) - 1)=(k:Int) - 1:=IntWalk.i64_in _ (by omega);go_simp;try with_reducible rfl) ?_;refine YGb 11 (some 28) rfl (fun w9 hSw=>IXY.out w9) ?_;refine YGa 12 (some 29) rfl ?_;refine YGd 13 (some 30) (.agg (bvals y.R.z)) rfl (fun w9 hSw=>by exact exec_load_by 31 _ rfl ⟨b0,oy,none⟩ rfl (Y2.out.same (hSw.block b0 hb02)).load_id) ?_;refine YGa 14 (some 31) rfl ?_;refine YGd 15 (some 32) (.agg (bvals x.R.z)) rfl (fun w9 hSw=>by exact exec_load_by 31 _ rfl ⟨wr.heap.size,0,none⟩ rfl (X2.out.below hSw X2.out.lt).load_id) ?_;refine YGj 16 (some 33) rfl HL.out ?_;refine YGa 17 (some 34) rfl ?_;exact Tta32
   ·obtain rfl:k=len:=by omega
    rw[List.drop_eq_nil_of_le (by rw[HLN.out];exact Nat.le_refl _),List.map_nil,okB]at hf;exact Tta87
 ·have hV2:=HV.out;rw[decide_eq_false h10,Bool.false_and]at hV2;have HF:=Yy hV2;have t1:10<(xs.length:Int):=by omega
  clear hV2;go_enter Tryz.func27,Tryz.ntmps27;go_wp2;go_ret;exact⟨by rw[HF.out];rfl,HB.out⟩
end
end Go.Proofs.YtnlhkpmgbpfjmaaGreatDoor
