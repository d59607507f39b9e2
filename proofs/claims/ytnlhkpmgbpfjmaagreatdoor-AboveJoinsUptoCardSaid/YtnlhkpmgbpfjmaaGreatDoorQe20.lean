import Derived.Test.YtnlhkpmgbpfjmaaGreatDoorQe19
/- What functions answer, part 20. -/
namespace Go.Proofs.YtnlhkpmgbpfjmaaGreatDoor
set_option linter.unusedVariables false
set_option linter.unusedSimpArgs false
set_option maxHeartbeats 16000000
set_option maxRecDepth 100000
section
open Go.RowKit WM
def aliv (P:Rc):Rc:=⟨P.z,0,0,P.fs⟩
def adead (P:Rc):Rc:=⟨P.z,P.n,P.r,[]⟩
def addX (Y:List Rc) (P:Rc):Int×List Rc:=if P.n=0∧P.r=0 then (0,Y) else bjE Y [adead P]
def addY (x:Int×List Rc) (P:Rc):Int×List Rc:=if x.1=0∧P.fs≠[] then bjE x.2 [aliv P] else x
def addOk (Y:List Rc) (P:Rc):Prop:=bmay Y=true∧may P.n P.r=true∧¬ (P.n=0∧P.r=0∧P.fs=[])∧(P.fs=[]∨(aliv P).may=true)
open Classical in
noncomputable def addE (Y:List Rc) (P:Rc):Int×List Rc:=
 if addOk Y P then (if (addY (addX Y P) P).1=0 then addY (addX Y P) P else ((addY (addX Y P) P).1,[])) else (1,[])
theorem okFrom_from {n r:Int}:∀ {fs:List Fld} {m m':Int},m'≤m→okFrom n r m fs=true→okFrom n r m' fs=true
 | [],_,_,_,_=>rfl
 | f::fs,m,m',h1,h=>by
  rw[okFrom]at h ⊢;simp only[Bool.and_eq_true,decide_eq_true_eq]at h ⊢;exact⟨⟨⟨⟨by omega,h.1.1.1.2⟩,h.1.1.2⟩,h.1.2⟩,h.2⟩
theorem rfind_filter (g:Int→Cel→Bool) {n r:Int}:∀ {fs:List Fld} {m:Int} (no:Int),okFrom n r m fs=true→rfind (fs.filter fun f=>g f.no f.c) no=(rfind fs no).filter (g no)
 | [],_,_,_=>rfl
 | f::fs,m,no,h=>by
  rw[okFrom]at h;simp only[Bool.and_eq_true,decide_eq_true_eq]at h;have ih:=rfind_filter g no h.2;have hP:g f.no f.c=true→(f::fs).filter (fun f=>g f.no f.c)=f::fs.filter (fun f=>g f.no f.c):=fun hg=>by simp[hg]
  have hN:g f.no f.c=false→(f::fs).filter (fun f=>g f.no f.c)=fs.filter (fun f=>g f.no f.c):=fun hg=>by simp[hg]
  by_cases hn:f.no=no
  ·have hl:rfind fs no=none:=rfind_low h.2 (by omega);rw[hl]at ih;subst hn;rw[rfind_cons f fs,if_pos rfl];cases hg:g f.no f.c with
   | true=>
    rw[hP hg,rfind_cons,if_pos rfl];simp[Option.filter,hg]
   | false=>
    rw[hN hg,ih];simp[Option.filter,hg]
  ·rw[rfind_cons f fs,if_neg hn];cases hg:g f.no f.c with
   | true=>rw[hP hg,rfind_cons,if_neg hn,ih]
   | false=>rw[hN hg,ih]
theorem okFrom_filter (g:Fld→Bool) {n r:Int}:∀ {fs:List Fld} {m:Int},okFrom n r m fs=true→okFrom n r m (fs.filter g)=true
 | [],_,_=>rfl
 | f::fs,m,h=>by
  rw[okFrom]at h;simp only[Bool.and_eq_true,decide_eq_true_eq]at h;have ih:=okFrom_filter g h.2;cases hg:g f with
  | true=>
   simp only[List.filter_cons,hg,if_true];rw[okFrom];simp only[Bool.and_eq_true,decide_eq_true_eq];exact⟨h.1,ih⟩
  | false=>
   simp only[List.filter_cons,hg,Bool.false_eq_true,if_false];exact okFrom_from (by omega) ih
theorem okFrom_alive {n r:Int}:∀ {fs:List Fld} {m:Int},okFrom n r m fs=true→okFrom 0 0 m fs=true
 | [],_,_=>rfl
 | f::fs,m,h=>by
  rw[okFrom]at h ⊢;simp only[Bool.and_eq_true,decide_eq_true_eq]at h ⊢;have hc:=cmay_iff.1 h.1.1.2;exact⟨⟨⟨h.1.1.1,h.1.1.2⟩,stLess_iff.2 (.inl (by omega))⟩,okFrom_alive h.2⟩
theorem may_zeroA:may 0 0=true:=by decide
theorem may_okFrom {R:Rc} (h:R.may=true):okFrom R.n R.r 0 R.fs=true:=by
 have h':=h;unfold Rc.may rmay at h';simp only[Bool.and_eq_true]at h';exact h'.2
theorem aliv_may {z:List Int} {n r:Int} {fs:List Fld} (h:okFrom n r 0 fs=true) (hf:fs≠[]):(⟨z,0,0,fs⟩:Rc).may=true:=by
 unfold Rc.may rmay;dsimp only;rw[may_zeroA,okFrom_alive h,decide_eq_false (show ¬ fs.length=0 from fun e=>hf (List.eq_nil_of_length_eq_zero e))]
 rfl
theorem adead_may {z:List Int} {n r:Int} (h:may n r=true) (hn:¬ (n=0∧r=0)):(⟨z,n,r,[]⟩:Rc).may=true:=by
 unfold Rc.may rmay;dsimp only;rw[h];by_cases h0:n=0
 ·rw[decide_eq_false (show ¬ r=0 from fun e=>hn ⟨h0,e⟩)];simp[okFrom]
 ·rw[decide_eq_false h0];simp[okFrom]
theorem part_at {R:Rc} {m:Mn} (h:R.may=true) (k:Nat):rfind (pfs R m) (k:Int)=(R.at k).filter (fun c=>exc c m R.z (k:Int)):=rfind_filter (fun no c=>exc c m R.z no) _ (may_okFrom h)
theorem mx_zeroA {x:Int×Int} (h:may x.1 x.2=true):mx x (0,0)=x:=by
 unfold mx;rw[if_neg (by rw[stLess_iff];have:=may_iff.1 h;dsimp only;omega)]
theorem adead_at (P:Rc) (k:Nat):(adead P).at k=none:=rfl
theorem aliv_at (P:Rc) (k:Nat):(aliv P).at k=rfind P.fs (k:Int):=rfl
noncomputable def excO (o:Option Rc) (c:Cel) (k:Nat):Bool:=match o with
 | none=>stLess 0 0 c.n c.r
 | some x=>stLess x.n x.r c.n c.r && (match x.at k with
  | none=>true
  | some e=>if e.n=c.n∧e.r=c.r then lessL (SH.sum (nums e.s)) (SH.sum (nums c.s)) else stLess e.n e.r c.n c.r)
def odead (o:Option Rc):Int×Int:=match o with
 | none=>(0,0)
 | some x=>(x.n,x.r)
theorem ldead_mof (base:List Int) (Y:List Rc) (z:List Int):ldead (mof SH.sum base Y) z=odead (bat Y z):=by
 unfold ldead;rw[show (mof SH.sum base Y).ls=Y.map (mofL SH.sum) from rfl,lfind_mof];cases bat Y z<;>rfl
theorem exc_mof (base:List Int) (Y:List Rc) (z:List Int) (c:Cel) (k:Nat):exc c (mof SH.sum base Y) z (k:Int)=excO (bat Y z) c k:=by
 unfold exc;rw[ldead_mof,mfind_mof];cases bat Y z with
 | none=>simp[excO,odead]
 | some x=>
  unfold excO odead Rc.at rfind;simp only[Option.bind_some];cases x.fs.find? (fun f=>decide (f.no=(k:Int))) with
  | none=>rfl
  | some f=>rfl
def noal (e c:Cel):Prop:=SH.sum (nums e.s)=SH.sum (nums c.s)→e.s=c.s
theorem exc_not {x:Rc} {c:Cel} {k:Nat} (h:excO (some x) c k=false) (hs:stLess x.n x.r c.n c.r=true):∃ e,x.at k=some e∧(noal e c→cless e c=false):=by
 unfold excO at h;dsimp only at h;rw[hs,Bool.true_and]at h;cases he:x.at k with
 | none=>rw[he]at h;cases h
 | some e=>
  rw[he]at h;dsimp only at h;refine⟨e,rfl,fun hn=>?_⟩;cases hc:cless e c with
  | false=>rfl
  | true=>
   rw[cless_iff]at hc;unfold CL at hc
   split at h
   ·rename_i h1
    rcases hc with hc | ⟨_,hc | ⟨hd,hc⟩⟩
    ·omega
    ·rw[hc]at h;cases h
    ·rw[hn hd]at hc;exact absurd hc.symm (by rw[lessL_not hc];decide)
   ·rename_i h1
    rcases hc with hc | ⟨hc,_⟩
    ·rw[stLess_iff.2 hc]at h;cases h
    ·exact absurd hc h1
theorem exc_yes {x:Rc} {c:Cel} {k:Nat} (h:excO (some x) c k=true):stLess x.n x.r c.n c.r=true∧∀ e,x.at k=some e→cless e c=true:=by
 unfold excO at h;dsimp only at h;rw[Bool.and_eq_true]at h;refine⟨h.1,fun e he=>?_⟩;have h2:=h.2;rw[he]at h2;dsimp only at h2;rw[cless_iff];unfold CL
 split at h2
 ·rename_i h1
  exact .inr ⟨h1,.inl h2⟩
 ·exact .inl (stLess_iff.1 h2)
theorem cell_part {x R:Rc} {k:Nat} {M:Int×Int} (hM:sle x.d M) (hn:∀ e c,x.at k=some e→R.at k=some c→noal e c):
  ofilt M (omerge (x.at k) ((R.at k).filter fun c=>excO (some x) c k))=ofilt M (omerge (x.at k) (R.at k)):=by
 cases hc:R.at k with
 | none=>rfl
 | some c=>
  cases he:excO (some x) c k with
  | true=>rw[show (some c:Option Cel).filter (fun c=>excO (some x) c k)=some c by simp[Option.filter,he]]
  | false=>
   rw[show (some c:Option Cel).filter (fun c=>excO (some x) c k)=none by simp[Option.filter,he],omerge_none];cases hs:stLess x.n x.r c.n c.r with
   | false=>
    have h1:=ofilt_merge hM (some c) (x.at k);rw[ofilt_no (show sl x.d c=false from hs)]at h1;rw[omerge_comm,← h1]
    rfl
   | true=>
    obtain⟨e,h1,h2⟩:=exc_not he hs;rw[h1];show ofilt M (some e)=ofilt M (some (cjoin e c));rw[cjoin_no (h2 (hn e c h1 hc))]
def oneA (q:Option Rc) (P:Rc):Option Rc:=
 if P.fs=[] then (if P.n=0∧P.r=0 then q else some (bone q (adead P)))
 else some (bone (if P.n=0∧P.r=0 then q else some (bone q (adead P))) (aliv P))
theorem rmay_dead {R:Rc} (h:R.may=true):may R.d.1 R.d.2=true:=may_dead h
theorem one_some {x R P:Rc} (hx:x.may=true) (hR:R.may=true) (hz:x.z=R.z) (pz:P.z=R.z)
  (pd:P.d=if stLess x.n x.r R.n R.r then R.d else (0,0)) (pf:okFrom R.n R.r 0 P.fs=true)
  (pa:∀ k:Nat,rfind P.fs (k:Int)=(R.at k).filter fun c=>excO (some x) c k)
  (hn:∀ (k:Nat) e c,x.at k=some e→R.at k=some c→noal e c):oneA (some x) P=some (jn x R):=by
 have hM:mx x.d P.d=mx x.d R.d:=by
  rw[pd]
  split
  ·rfl
  ·rename_i h
   rw[mx_zeroA (rmay_dead hx)];unfold mx;rw[if_neg (show ¬ stLess x.d.1 x.d.2 R.d.1 R.d.2=true from h)]
 have hMx:sle x.d (mx x.d R.d):=sle_mx1 _ _;have hpm:¬ (P.n=0∧P.r=0)→may P.n P.r=true:=fun h0=>by
  have:P.d=R.d:=by
   rw[pd]
   split
   ·rfl
   ·rename_i h
    exact absurd (show P.d=(0,0) by rw[pd,if_neg h]) (fun e=>h0 ⟨congrArg Prod.fst e,congrArg Prod.snd e⟩)
  have h2:=rmay_dead hR;rw[← this]at h2;exact h2
 obtain⟨Q1,hQ1⟩:∃ Q1,Q1=if P.n=0∧P.r=0 then x else jn x (adead P):=⟨_,rfl⟩;have q1m:Q1.may=true:=by
  rw[hQ1];split
  ·exact hx
  ·rename_i h0;exact jn_may hx (adead_may (hpm h0) h0)
 have q1z:Q1.z=x.z:=by rw[hQ1];split<;>rfl
 have q1d:Q1.d=mx x.d R.d:=by
  rw[hQ1]
  split
  ·rename_i h0
   rw[← hM,show P.d=(0,0) from Prod.ext h0.1 h0.2,mx_zeroA (rmay_dead hx)]
  ·exact hM
 have q1a:∀ k,k<8→Q1.at k=ofilt (mx x.d R.d) (x.at k):=fun k hk=>by
  rw[hQ1]
  split
  ·rename_i h0
   have h1:mx x.d R.d=x.d:=by rw[← hM,show P.d=(0,0) from Prod.ext h0.1 h0.2,mx_zeroA (rmay_dead hx)]
   rw[h1,at_filt hx]
  ·rw[at_jn _ _ hk,adead_at,omerge_none];exact congrArg (fun M=>ofilt M (x.at k)) hM
 have hb:(if P.n=0∧P.r=0 then some x else some (bone (some x) (adead P)))=some Q1:=by rw[hQ1];split<;>rfl
 unfold oneA;rw[hb];by_cases hf:P.fs=[]
 ·rw[if_pos hf];refine congrArg some (rc_ext q1m (jn_may hx hR) q1z q1d fun k hk=>?_);rw[q1a k hk,at_jn _ _ hk,← cell_part hMx (hn k),← pa k,hf];show ofilt _ (x.at k)=ofilt _ (omerge (x.at k) none);rw[omerge_none]
 ·rw[if_neg hf];have hlm:(aliv P).may=true:=aliv_may pf hf;refine congrArg some (rc_ext (show (jn Q1 (aliv P)).may=true from jn_may q1m hlm) (jn_may hx hR) q1z ?_ fun k hk=>?_)
  ·show mx Q1.d (0,0)=mx x.d R.d;rw[mx_zeroA (rmay_dead q1m),q1d]
  ·show (jn Q1 (aliv P)).at k=_;rw[at_jn _ _ hk,at_jn _ _ hk,show (aliv P).d=(0,0) from rfl,mx_zeroA (rmay_dead q1m),q1d,q1a k hk,aliv_at,pa k,ofilt_merge (sle_refl _),cell_part hMx (hn k)]
theorem one_none {R:Rc} (hR:R.may=true):oneA none R=some R:=by
 have hd:=rmay_dead hR;unfold oneA;by_cases hf:R.fs=[]
 ·rw[if_pos hf];have h0:¬ (R.n=0∧R.r=0):=fun h0=>by
   unfold Rc.may rmay at hR;rw[h0.1,h0.2,hf]at hR;simp at hR
  rw[if_neg h0];show some (adead R)=some R;unfold adead;obtain⟨z,n,r,fs⟩:=R;dsimp only at hf ⊢;rw[hf]
 ·rw[if_neg hf];by_cases h0:R.n=0∧R.r=0
  ·rw[if_pos h0];show some (aliv R)=some R;unfold aliv;obtain⟨z,n,r,fs⟩:=R;dsimp only at h0 ⊢;rw[h0.1,h0.2]
  ·rw[if_neg h0];have ha:(adead R).may=true:=adead_may (may_dead hR) h0;have hl:(aliv R).may=true:=aliv_may (may_okFrom hR) hf;refine congrArg some (rc_ext (show (jn (adead R) (aliv R)).may=true from jn_may ha hl) hR rfl ?_ fun k hk=>?_)
   ·show mx (adead R).d (0,0)=R.d;exact mx_zeroA hd
   ·show (jn (adead R) (aliv R)).at k=R.at k;rw[at_jn _ _ hk,show (aliv R).d=(0,0) from rfl,show (adead R).d=R.d from rfl,mx_zeroA hd,adead_at,aliv_at];show ofilt R.d (R.at k)=R.at k;exact at_filt hR k
theorem bput_len2:∀ (bs:List Rc) {r r':Rc},r.z=r'.z→(bput bs r).length=(bput bs r').length
 | [],_,_,_=>rfl
 | x::xs,r,r',h=>by
  rw[bput,bput,h]
  split
  ·rfl
  ·split
   ·rfl
   ·rw[List.length_cons,List.length_cons,bput_len2 xs h]
theorem bput_bmay {bs:List Rc} {r:Rc} (h:bmay bs=true) (hr:r.may=true) (hl:(bput bs r).length≤10):bmay (bput bs r)=true:=by
 obtain⟨h1,h2,h3⟩:=bmay_iff.1 h;exact bmay_iff.2 ⟨hl,bput_may h2 hr,bput_rise r h3⟩
theorem bjE_one {bs:List Rc} {r:Rc} (h:bmay bs=true) (hr:r.may=true) (hl:(bput bs r).length≤10):bjE bs [r]=(0,bput bs r):=by
 have h1:=bjoin_one r (bmay_iff.1 h).2.2;rw[bjE_yes h (bmay_one hr) (by rw[h1];exact hl),h1]
theorem bat_ext {a b:List Rc} (ha:Rise a) (hb:Rise b) (h:∀ z,bat a z=bat b z):a=b:=bk_ext ha hb h
theorem add_one {c:List Rc} {R P:Rc} (hc:bmay c=true) (hR:R.may=true) (pz:P.z=R.z) (ok:addOk c P) (hl:(bput c R).length≤10)
  (hq:oneA (bat c R.z) P=some (bone (bat c R.z) R)):addE c P=(0,bput c R):=by
 obtain⟨h1,h2,h3,h4⟩:=ok;have hr:=(bmay_iff.1 hc).2.2;have hX:∃ c1,addX c P=(0,c1)∧bmay c1=true∧(∀ z,bat c1 z=if R.z=z then (if P.n=0∧P.r=0 then bat c R.z else some (bone (bat c R.z) (adead P))) else bat c z)∧∀ r:Rc,r.z=R.z→(bput c1 r).length≤10:=by
  unfold addX;by_cases h0:P.n=0∧P.r=0
  ·rw[if_pos h0];refine⟨c,rfl,hc,fun z=>?_,fun r hz=>by rw[bput_len2 c hz];exact hl⟩
   split
   ·rename_i e;rw[e]
   ·rfl
  ·rw[if_neg h0];have ha:(adead P).may=true:=adead_may h2 h0;have hz:(adead P).z=R.z:=pz;have hl1:(bput c (adead P)).length≤10:=by rw[bput_len2 c hz];exact hl
   refine⟨_,bjE_one hc ha hl1,bput_bmay hc ha hl1,fun z=>?_,fun r hrz=>?_⟩
   ·rw[bat_bput _ _ hr,hz,if_neg h0]
    split
    ·rename_i e;rw[e]
    ·rfl
   ·have hb:bat (bput c (adead P)) r.z=some (bone (bat c r.z) (adead P)):=by rw[bat_bput _ _ hr,if_pos (hz.trans hrz.symm)]
    rw[bput_lenF (bput_rise _ hr) hb];exact hl1
 obtain⟨c1,hx,hm1,hb1,hl1⟩:=hX;have hr1:=(bmay_iff.1 hm1).2.2;have hY:addY (addX c P) P=(0,bput c R):=by
  rw[hx];unfold addY;dsimp only;by_cases hf:P.fs=[]
  ·rw[if_neg (fun h=>h.2 hf)];refine congrArg (Prod.mk 0) (bat_ext hr1 (bput_rise _ hr) fun z=>?_);rw[hb1,bat_bput _ _ hr]
   split
   ·rename_i e
    unfold oneA at hq;rw[if_pos hf]at hq;rw[hq,e]
   ·rfl
  ·rw[if_pos ⟨rfl,hf⟩];have ha:(aliv P).may=true:=(h4.resolve_left hf);have hz:(aliv P).z=R.z:=pz;rw[bjE_one hm1 ha (hl1 _ hz)];refine congrArg (Prod.mk 0) (bat_ext (bput_rise _ hr1) (bput_rise _ hr) fun z=>?_);rw[bat_bput _ _ hr1,bat_bput _ _ hr,hz]
   split
   ·rename_i e
    unfold oneA at hq;rw[if_neg hf]at hq;rw[← e,hb1,if_pos rfl];exact hq
   ·rename_i e
    rw[hb1,if_neg e]
 unfold addE;rw[if_pos ⟨h1,h2,h3,h4⟩,hY,if_pos rfl]
section
variable {base:List Int} {Y:List Rc} {R:Rc}
theorem ppart_none (hR:R.may=true) (h:bat Y R.z=none):ppart (mof SH.sum base Y) R=R:=by
 have hd:=may_iff.1 (may_dead hR);have hf:pfs R (mof SH.sum base Y)=R.fs:=by
  unfold pfs;refine List.filter_eq_self.2 fun f hf=>?_;obtain⟨h1,h2,h3,_⟩:=okFrom_all _ _ _ _ (may_okFrom hR) (Int.le_refl 0) f hf;have h4:=exc_mof base Y R.z f.c f.no.toNat;rw[Int.toNat_of_nonneg h1,h]at h4;rw[h4];exact stLess_iff.2 (.inl (by have:=(cmay_iff.1 h3).2.1;omega))
 have hp:pless R (mof SH.sum base Y)=stLess 0 0 R.n R.r:=by unfold pless;rw[ldead_mof,h];rfl
 unfold ppart;rw[hf,hp];obtain⟨z,n,r,fs⟩:=R;dsimp only at hd ⊢;by_cases h0:n=0
 ·have h1:r=0:=by omega
  subst h0 h1;simp
 ·rw[stLess_iff.2 (.inl (by omega)),if_pos rfl,if_pos rfl]
theorem ppart_some {x:Rc} (h:bat Y R.z=some x):pless R (mof SH.sum base Y)=stLess x.n x.r R.n R.r:=by unfold pless;rw[ldead_mof,h];rfl
theorem ppart_at {x:Rc} (hR:R.may=true) (h:bat Y R.z=some x) (k:Nat):rfind (pfs R (mof SH.sum base Y)) (k:Int)=(R.at k).filter fun c=>excO (some x) c k:=by
 rw[part_at hR];refine congrArg (fun p=>Option.filter p (R.at k)) (funext fun c=>?_);rw[exc_mof,h]
end
def NoAl (X Y:List Rc):Prop:=∀ R∈X,∀ x∈Y,x.z=R.z→∀ (k:Nat) e c,x.at k=some e→R.at k=some c→noal e c
theorem part_one {base:List Int} {Y:List Rc} {R:Rc} (hY:bmay Y=true) (hR:R.may=true) (hn:∀ x∈Y,x.z=R.z→∀ (k:Nat) e c,x.at k=some e→R.at k=some c→noal e c):
  oneA (bat Y R.z) (ppart (mof SH.sum base Y) R)=some (bone (bat Y R.z) R):=by
 cases h:bat Y R.z with
 | none=>rw[ppart_none hR h];exact one_none hR
 | some x=>
  obtain⟨hm,hz⟩:=bat_may (bmay_iff.1 hY).2.1 h;refine one_some hm hR hz rfl ?_ (okFrom_filter _ (may_okFrom hR)) (ppart_at hR h) (hn x (bat_some h).1 hz);show ((if pless R _ then R.n else 0),(if pless R _ then R.r else 0))=_;rw[ppart_some h]
  split<;>rfl
theorem part_ok {base:List Int} {Y:List Rc} {R P:Rc} (hY:bmay Y=true) (hR:R.may=true) (hp:apart (mof SH.sum base Y) R=some P) {c:List Rc} (hc:bmay c=true):P=ppart (mof SH.sum base Y) R∧addOk c P:=by
 unfold apart at hp
 split at hp
 ·rename_i h
  have hP:ppart (mof SH.sum base Y) R=P:=Option.some.inj hp;have hd:=may_iff.1 (may_dead hR);refine⟨hP.symm,hc,?_,?_,?_⟩
  ·rw[← hP];show may (if pless R _ then R.n else 0) (if pless R _ then R.r else 0)=true;cases pless R (mof SH.sum base Y)
   ·exact may_zeroA
   ·exact may_dead hR
  ·rintro⟨h1,h2,h3⟩;rw[← hP]at h1 h2 h3;have h4:pfs R (mof SH.sum base Y)=[]:=h3;rcases h with h | h
   ·change (if pless R _ then R.n else 0)=0 at h1
    change (if pless R _ then R.r else 0)=0 at h2
    rw[h,if_pos rfl]at h1 h2;unfold pless at h;rw[ldead_mof,h1,h2]at h;unfold odead at h;cases hb:bat Y R.z with
    | none=>rw[hb]at h;exact absurd h (by decide)
    | some x=>
     rw[hb]at h;have hx:=may_iff.1 (may_dead (bat_may (bmay_iff.1 hY).2.1 hb).1);have:=stLess_iff.1 h;dsimp only at this;omega
   ·exact h h4
  ·by_cases hf:P.fs=[]
   ·exact .inl hf
   ·refine .inr (aliv_may (n:=R.n) (r:=R.r) ?_ hf);rw[← hP];exact okFrom_filter _ (may_okFrom hR)
 ·cases hp
theorem bput_ge:∀ (bs:List Rc) (r:Rc),bs.length≤(bput bs r).length
 | [],_=>Nat.zero_le _
 | x::xs,r=>by
  rw[bput]
  split
  ·exact Nat.le_refl _
  ·split
   ·simp
   ·rw[List.length_cons,List.length_cons];exact Nat.succ_le_succ (bput_ge xs r)
theorem fold_ge:∀ (rs bs:List Rc),bs.length≤(rs.foldl bput bs).length
 | [],_=>Nat.le_refl _
 | r::rs,bs=>Nat.le_trans (bput_ge bs r) (fold_ge rs _)
noncomputable def addAll (L:List Rc) (a:Int×List Rc):Int×List Rc:=L.foldl (fun a P=>if a.1=0 then addE a.2 P else a) a
theorem addAll_parts {base:List Int} {Y:List Rc} (hY:bmay Y=true):∀ (X c:List Rc),AllMay X→Rise X→bmay c=true→(∀ R∈X,bat c R.z=bat Y R.z)→(X.foldl bput c).length≤10→NoAl X Y →
  addAll (X.filterMap (apart (mof SH.sum base Y))) (0,c)=(0,X.foldl bput c)
 | [],_,_,_,_,_,_,_=>rfl
 | R::X,c,hm,hr,hc,hb,hl,hn=>by
  have hR:=hm R List.mem_cons_self;have hlt:=List.pairwise_cons.1 hr;have hl1:(bput c R).length≤10:=Nat.le_trans (fold_ge X _) hl;have hone:=part_one (base:=base) hY hR (hn R List.mem_cons_self);rw[← hb R List.mem_cons_self]at hone;have hrise:=(bmay_iff.1 hc).2.2;have ih:=fun (c':List Rc) (h:c'=bput c R)=>addAll_parts (base:=base) hY X c' (fun x hx=>hm x (List.mem_cons_of_mem _ hx)) hlt.2 (by rw[h];exact bput_bmay hc hR hl1)
   (fun Q hQ=>by rw[h,bat_bput _ _ hrise,if_neg (il_ne (hlt.1 Q hQ))];exact hb Q (List.mem_cons_of_mem _ hQ)) (by rw[h];exact hl) (fun Q hQ=>hn Q (List.mem_cons_of_mem _ hQ))
  rw[List.foldl_cons];cases hp:apart (mof SH.sum base Y) R with
  | none=>
   rw[List.filterMap_cons_none hp];have hcb:c=bput c R:=by
    unfold apart at hp
    split at hp
    ·cases hp
    ·rename_i h
     have h1:pfs R (mof SH.sum base Y)=[]:=by
      by_cases h2:pfs R (mof SH.sum base Y)=[]
      ·exact h2
      ·exact absurd (.inr h2) h
     have h2:pless R (mof SH.sum base Y)=false:=by
      cases h3:pless R (mof SH.sum base Y)
      ·rfl
      ·exact absurd (.inl h3) h
     have h4:oneA (bat c R.z) (ppart (mof SH.sum base Y) R)=bat c R.z:=by
      unfold oneA ppart;dsimp only;rw[if_pos h1,h2,if_pos ⟨rfl,rfl⟩]
     rw[h4]at hone;refine bat_ext hrise (bput_rise _ hrise) fun z=>?_;rw[bat_bput _ _ hrise]
     split
     ·rename_i e;rw[← e];exact hone
     ·rfl
   rw[← hcb];rw[ih c hcb]
  | some P=>
   rw[List.filterMap_cons_some hp];obtain⟨hP,hok⟩:=part_ok hY hR hp hc;rw[← hP]at hone;show addAll (X.filterMap _) (if (0:Int)=0 then addE c P else (0,c))=_;rw[if_pos rfl,add_one hc hR (by rw[hP];rfl) hok hl1 hone];exact ih _ rfl
theorem bjoin_fold {X Y:List Rc} (hY:Rise Y) (hm:AllMay Y):bjoin Y X=X.foldl bput Y:=by
 unfold bjoin;rw[List.foldl_append]
 congr 1
 refine bat_ext (fold_rise rise_nil) hY fun z=>?_;rw[bat_fold z rise_nil hY];cases bat Y z<;>rfl
end
section
open Go.RowKit WM
theorem rfind_in {n r:Int}:∀ {fs:List Fld} {m:Int},okFrom n r m fs=true→∀ f∈fs,rfind fs f.no=some f.c
 | [],_,_,f,hf=>by cases hf
 | g::fs,m,h,f,hf=>by
  rw[okFrom]at h;simp only[Bool.and_eq_true,decide_eq_true_eq]at h;rw[rfind_cons];rcases List.mem_cons.1 hf with rfl | hf
  ·rw[if_pos rfl]
  ·have ih:=rfind_in h.2 f hf;have hne:¬ g.no=f.no:=fun e=>by
    have:=rfind_low h.2 (no:=g.no) (by omega);rw[e,ih]at this;cases this
   rw[if_neg hne];exact ih
theorem apart_no {base:List Int} {J:List Rc} {R x:Rc} (hx:x.may=true) (hR:R.may=true) (hb:bat J R.z=some x) (hj:jn x R=x):apart (mof SH.sum base J) R=none:=by
 have hd:mx x.d R.d=x.d:=congrArg Rc.d hj;have h1:pless R (mof SH.sum base J)=false:=by
  rw[ppart_some hb];cases h:stLess x.n x.r R.n R.r with
  | false=>rfl
  | true=>
   have h2:mx x.d R.d=R.d:=by unfold mx;rw[if_pos (show stLess x.d.1 x.d.2 R.d.1 R.d.2=true from h)]
   rw[hd]at h2;have h3:x.n=R.n:=congrArg Prod.fst h2;have h4:x.r=R.r:=congrArg Prod.snd h2;have:=stLess_iff.1 h;omega
 have h2:pfs R (mof SH.sum base J)=[]:=by
  unfold pfs;refine List.filter_eq_nil_iff.2 fun f hf he=>?_;obtain⟨a1,a2,a3,a4⟩:=okFrom_all _ _ _ _ (may_okFrom hR) (Int.le_refl 0) f hf;have hk:f.no.toNat<8:=by omega
  have hno:((f.no.toNat:Nat):Int)=f.no:=Int.toNat_of_nonneg a1;have h4:=exc_mof base J R.z f.c f.no.toNat;rw[hno,hb]at h4;rw[h4]at he;obtain⟨e1,e2⟩:=exc_yes he;have hRa:R.at f.no.toNat=some f.c:=by unfold Rc.at;rw[hno];exact rfind_in (may_okFrom hR) f hf
  have hja:=at_jn x R hk;rw[hj,hd,hRa]at hja;cases hxa:x.at f.no.toNat with
  | none=>
   rw[hxa]at hja;have:ofilt x.d (omerge none (some f.c))=some f.c:=ofilt_some e1;rw[this]at hja;cases hja
  | some e=>
   rw[hxa]at hja;have h5:=e2 e hxa;have:ofilt x.d (omerge (some e) (some f.c))=some f.c:=by
    show ofilt x.d (some (cjoin e f.c))=_;rw[cjoin_yes h5];exact ofilt_some e1
   rw[this]at hja;rw[Option.some.inj hja]at h5;rw[cless_self]at h5;cases h5
 unfold apart;rw[if_neg (fun h=>h.elim (fun h=>by rw[h1]at h;cases h) (fun h=>h h2))]
theorem parts_noA {base:List Int} {X J:List Rc} (hX:bmay X=true) (hJ:bmay J=true) (h:∀ R∈X,∃ x,bat J R.z=some x∧jn x R=x):X.filterMap (apart (mof SH.sum base J))=[]:=by
 refine List.filterMap_eq_nil_iff.2 fun R hR=>?_;obtain⟨x,h1,h2⟩:=h R hR;exact apart_no (bat_may (bmay_iff.1 hJ).2.1 h1).1 ((bmay_iff.1 hX).2.1 R hR) h1 h2
theorem join_eats {X J:List Rc} (hX:bmay X=true) (hJ:bmay J=true) (h:bjoin J X=J):∀ R∈X,∃ x,bat J R.z=some x∧jn x R=x:=fun R hR=>by
 obtain⟨_,m1,r1⟩:=bmay_iff.1 hX;obtain⟨_,m2,r2⟩:=bmay_iff.1 hJ;have h1:=bat_bjoin r2 r1 R.z;rw[h,bat_mem r1 hR]at h1;cases hb:bat J R.z with
 | none=>rw[hb]at h1;cases h1
 | some x=>
  rw[hb]at h1;exact⟨x,rfl,(Option.some.inj h1).symm⟩
theorem parts_own {base:List Int} {Y:List Rc} (hY:bmay Y=true):Y.filterMap (apart (mof SH.sum base Y))=[]:=
 parts_noA hY hY (join_eats hY hY (bjoin_self (bmay_iff.1 hY).2.1 (bmay_iff.1 hY).2.2))
theorem apart_all {base:List Int} {R:Rc} (hR:R.may=true):apart (mof SH.sum base []) R=some R:=by
 have hp:=ppart_none (base:=base) (Y:=[]) hR rfl;have h0:=congrArg Rc.fs hp;have h1:pfs R (mof SH.sum base [])=R.fs:=h0;unfold apart;rw[hp,if_pos];by_cases hf:R.fs=[]
 ·left
  unfold pless;rw[ldead_mof];show stLess 0 0 R.n R.r=true;have hm:=may_iff.1 (may_dead hR);have hn:¬ (R.n=0∧R.r=0):=fun h=>by
   unfold Rc.may rmay at hR;rw[h.1,h.2,hf]at hR;simp at hR
  exact stLess_iff.2 (.inl (by omega))
 ·exact .inr (by rw[h1];exact hf)
theorem parts_all {base:List Int}:∀ {X:List Rc},AllMay X→X.filterMap (apart (mof SH.sum base []))=X
 | [],_=>rfl
 | R::X,h=>by
  rw[List.filterMap_cons_some (apart_all (h R List.mem_cons_self)),parts_all fun x hx=>h x (List.mem_cons_of_mem _ hx)]
theorem above_joins {base:List Int} {X Y:List Rc} (hX:bmay X=true) (hY:bmay Y=true) (hl:(bjoin X Y).length≤10) (hn:NoAl X Y):
  addAll (X.filterMap (apart (mof SH.sum base Y))) (0,Y)=(0,bjoin X Y)∧(X.filterMap (apart (mof SH.sum base Y))=[]↔bjoin X Y=Y):=by
 obtain⟨_,m1,r1⟩:=bmay_iff.1 hX;obtain⟨_,m2,r2⟩:=bmay_iff.1 hY;have hc:=bjoin_comm m2 m1 r2 r1;have hf:=bjoin_fold (X:=X) r2 m2;have h1:=addAll_parts (base:=base) hY X Y m1 r1 hY (fun _ _=>rfl) (by rw[← hf,hc];exact hl) hn;rw[← hf,hc]at h1;refine⟨h1,fun h=>?_,fun h=>parts_noA hX hY (join_eats hX hY (by rw[hc];exact h))⟩;rw[h]at h1;exact (congrArg Prod.snd h1).symm
end
section
section
open Go.RowKit WM
theorem one_any (s:ByteArray) (w:World) (hlaid:Laid w) (hs:s.size≤1000000):Calls Tryz.prog 108 #[.string s] w fun e w'=>e=.returned (KSig.v (sgOne (nums s)))∧Below w.heap.size w w':=by
 have hz:=zeroSig;have hok:=sgOne_ok (nums s);have HC1:=Yy (fun w=>rlsum_any s w hs);have HC2:=Yy (fun (X:World) (hX:Below w.heap.size w X)=>of_any s X (hlaid.below hX Nl) (by omega));unfold DSumPost at HC2;have HBD:=Yy (fun w9=>build_sig (x:=sgOne (nums s)) hok.2.2.1 w9);have SZ:=Yy (sig_size hok);have SQ:=Yy (sig_same sgz_ok hok);have SO:=Yy (sig_ones (sgOne (nums s)));have hrA:∀ X,Below (w.heap.size+1) (w.alloc (.cells (KSig.cs sgz).toArray 122)) X→X.heap[w.heap.size]?=some (.cells (KSig.cs sgz).toArray 122):=fun X hX=>(hX.block _ (by omega)).trans (heap_alloc_new w _);have hbA:Below w.heap.size w (w.alloc (.cells (KSig.cs sgz).toArray 122)):=(Below.refl _ _).alloc Nl _;have hszA:(w.alloc (.cells (KSig.cs sgz).toArray 122)).heap.size=w.heap.size+1:=World.size_alloc _ _;simp only[show (sgOne (nums s)).wk=rlS (nums s) from rfl,show (sgOne (nums s)).ds=SH.sum (nums s) from rfl]at HBD;rw[show KSig.v ⟨0,List.replicate 32 0⟩=.agg (KSig.cs sgz).toArray from rfl]at hz;rw[show KSig.v (sgOne (nums s))=.agg (KSig.cs (sgOne (nums s))).toArray from rfl]at HBD ⊢;have hzne:¬ (KSig.cs sgz).toArray=#[]:=by simp[KSig,Sg.cs]
 have HRA:=Yy hrA;have HBA:=Yy hbA;have HSZ:=Yy hszA;generalize (KSig.cs sgz).toArray=Z at *;generalize (KSig.cs (sgOne (nums s))).toArray=V at *;generalize rlS (nums s)=R at *;generalize bvals (SH.sum (nums s))=D at *;clear hrA hbA hszA hok hlaid;go_enter Tryz.func108,Tryz.ntmps108;go_wp2_with fail;refine (HC1.out _).mono ?_;rintro e w1 ⟨rfl,hb1⟩;rw[HSZ.out]at hb1;have HB1:=Yy hb1;clear hb1;go_wp2_with fail;refine (HC2.out _ (HBA.out.trans (HB1.out.mono (by omega)))).mono ?_;rintro e w2 ⟨rfl,hb2⟩;have HB2:=Yy (HB1.out.trans (hb2.mono (by have:=HB1.out.size;rw[HSZ.out]at this;exact this)));have F1:=Yy (HRA.out _ HB2.out);have F2:=Yy (show (w2.setRow w.heap.size V).heap[w.heap.size]?=some (.cells V 122) from setRow_heap _ _ _ _ _ _ F1.out);have F3:=Yy (below_setRow (HBA.out.trans (HB2.out.mono (by omega))) Nl V);clear hb2;go_wp2_with (first | ((with_reducible refine wpList_build_at (o:=⟨some 7,.build 122 #[(0,.tmp 4),(1,.tmp 6)],_,_,_,_⟩) ?_ 122 #[(0,.tmp 4),(1,.tmp 6)] ?_ #[(0,.int .u32 R),(1,.agg D)] ?_ _ (HBD.out w2) ?_);rfl;rfl;(simp only[List.map_toArray,List.map_cons,List.map_nil];rfl)) | ((with_reducible refine wpList_store_row (o:=⟨none,.store 122 (.tmp 2) (.tmp 7),_,_,_,_⟩) ?_ 122 (.tmp 2) (.tmp 7) ?_ w.heap.size V ?_ ?_ 122 _ F1.out SZ.out SQ.out SO.out ?_);rfl;rfl;rfl;rfl));exact bodyPost_ret (v:=.agg V) (by exact results_cell_row Tryz.results108 _ _ w.heap.size 122 V (0,0) _ rfl F2.out Tryz.underlying122 rfl SZ.out) (by rfl) ⟨rfl,F3.out⟩
end
section
open Go.RowKit WM
theorem cut_upto (s:ByteArray) (m:Nat) (hm:m≤s.size) (I:Int) (eI:I=m) (w:World):(Instr.slice 9 (.string s) none (some (.int .i64 I)) none).run Tryz.prog w=.ok (.string (s.extract 0 m)) w:=by
 subst eI;have h:=run_slice_string_h (P:=Tryz.prog) (w:=w) (t:=9) (s:=s) Tryz.underlying9 .i64 (m:Int) (by omega) (by omega)
 simpa using h
theorem cut_from (s:ByteArray) (m:Nat) (hm:m≤s.size) (I:Int) (eI:I=m) (w:World):(Instr.slice 9 (.string s) (some (.int .i64 I)) none none).run Tryz.prog w=.ok (.string (s.extract m s.size)) w:=by
 subst eI;have h:=run_slice_string_l (P:=Tryz.prog) (w:=w) (t:=9) (s:=s) Tryz.underlying9 .i64 (m:Int) (by omega) (by omega)
 simpa using h
theorem of10_new (s:ByteArray) (w:World) (hlaid:Laid w) (hs:s.size≤2000000):Calls Tryz.prog 81 #[.string s] w (KPostN KSig 122 w (sgOf (nums s))):=by
 have HN0:=Yy (kpostN_nil (K:=KSig) (te:=122) (Below.refl w.heap.size w));obtain⟨n,hn⟩:∃ n,n=s.size:=⟨_,rfl⟩;have HNN:=Yy (show (nums s).length=n by rw[nums_len,hn]);have hlen:s.size=n:=hn.symm;have HSZ:=Yy hlen;clear hn;by_cases h1:n<24
 ·have HV:=Yy (sgOf_none (zs:=nums s) (by rw[HNN.out];exact h1));have t1:(n:Int)<24:=by omega
  go_enter Tryz.func81,Tryz.ntmps81;go_wp2;go_ret;rw[HV.out];exact HN0.out
 ·have t0:¬ (n:Int)<24:=by omega
  have h24:¬ (nums s).length<24:=by rw[HNN.out];exact h1
  obtain⟨m,hm⟩:∃ m,m=n / 8:=⟨_,rfl⟩;have HLN:=Yy (sgOf_len h24);rw[HNN.out,← hm]at HLN;have HAT:=Yy (fun k (hk:k<m)=>sgOf_at h24 (k:=k) (by rw[HNN.out,← hm];exact hk));have HOK:=Yy (sgOf_ok (nums s));generalize sgOf (nums s)=L at *;have hm8:8*m≤n∧n<8*m+8:=by omega
  have hquo:Int.tdiv (n:Int) 8=(m:Int):=by rw[Int.tdiv_eq_ediv_of_nonneg (by omega)];omega
  have HPS:=Yy (fun (p:ByteArray) (hp:p.size=8) (X:World) (hX:Below w.heap.size w X)=>one_any p X (hlaid.below hX Nl) (by omega));obtain⟨i0,hi,hz0,hz1,hz2⟩:=info_parts infoSig;have hzl:(KSig.v ⟨0,List.replicate 32 0⟩).cells.size=KSig.n:=by decide
  have HUP:=Yy cut_upto;have HFR:=Yy cut_from;clear h1 h24 hm hlaid;go_enter Tryz.func81,Tryz.ntmps81;go_wp2_with (at_make;refine wpList_make_own _ rfl _ _ 66 rfl w.heap.size 122 i0 _ 33 Tryz.underlying66 hi hz0 hz1 .i64 .i64 (m:Int) m rfl rfl rfl (by rw[hz2];omega) (by simp only[maxLen];omega) Nl ?_;intro w1 hown hgrow;have OW:=Yy hown;have BW:=Yy ((Below.refl w.heap.size w).grown hgrow Nl (fun _ h=>by cases h));clear hown hgrow);go_loopw [0,3] (fun r v wr=>∃ (k q:Nat) (R:ByteArray),k≤m∧R.size=q∧q+8*k=n∧r=.string R∧nums R=(nums s).drop (8*k)∧wr.ownsRow w.heap.size 122 KSig.n v k ((L.take k).flatMap KSig.cs)∧Below w.heap.size w wr) (fun r _ _=>match r with | .string R=>R.size | _=>0)
  case atStart=>exact⟨0,n,s,Nat.zero_le _,hlen,rfl,rfl,by simp,OW.out,BW.out⟩
  case round=>
   obtain⟨k,q,R,hk,hq,hqn,rfl,hR,ho,hb⟩:=hrel;have HO:=Yy ho;have HBB:=Yy hb;have HRR:=Yy hR;have HQ:=Yy hq;have HQN:=Yy hqn;by_cases hlt:k<m
   ·have t1:(8:Int)≤(q:Int):=by omega
    have hup:=HUP.out R 8 (by omega) 8 rfl;have hfr:=HFR.out R 8 (by omega) 8 rfl;have HNP:=Yy (show nums (R.extract 0 8)=((nums s).drop (8*k)).take 8 by rw[nums_extract,hR,List.drop_zero]);have HZP:=Yy (show (R.extract 0 8).size=8 from extract_size _ _ _ (by omega));have HNF:=Yy (show nums (R.extract 8 R.size)=(nums s).drop (8*(k+1)) by
     rw[nums_extract,hR,List.drop_drop,List.take_of_length_le (by rw[List.length_drop,HNN.out];omega)];rw[show 8*(k+1)=8*k+8 by omega])
    have HZF:=Yy (show (R.extract 8 R.size).size=q - 8 by rw[extract_size _ _ _ Nl,hq]);have HC:=Yy (HPS.out (R.extract 0 8) HZP.out wr hb);rw[HNP.out,← HAT.out k hlt]at HC;have HXO:=Yy (HOK.out (L.getD k sg0) (by rw[List.getD_eq_getElem?_getD,List.getElem?_eq_getElem (by rw[HLN.out];exact hlt)];exact List.getElem_mem _));have HTK:=Yy (show L.take (k+1)=L.take k++[L.getD k sg0] by
     rw[List.take_succ_eq_append_getElem (by rw[HLN.out];exact hlt),List.getD_eq_getElem?_getD,List.getElem?_eq_getElem (by rw[HLN.out];exact hlt)]
     rfl)
    clear HNP HZP hR;generalize R.extract 0 8=p at *;generalize R.extract 8 R.size=f at *;generalize L.getD k sg0=x at *;clear ho hb hqn;go_wp2_with fail;refine HC.out.mono ?_;rintro e w1 ⟨rfl,hb1⟩;have B1:=Yy (HBB.out.trans (hb1.mono HBB.out.size));have O1:=Yy ((own_below HO.out hb1).alloc (.cells (KSig.cs x).toArray 122));have B2:=Yy (B1.out.alloc B1.out.size (.cells (KSig.cs x).toArray 122));have R2:=Yy (Kind.row_one (K:=KSig) (w:=w1) (x:=x) (t:=122) HXO.out);have VL:Hid (k+1≤10000000):=Yy (by omega);have VS:=Yy B2.out.size;have XL:=Yy (show (KSig.cs x).length=KSig.n from Sg.cs_len HXO.out);clear hb1;go_wp2_with (first | ((with_reducible refine wpList_bsliceK (K:=KSig) (o:=⟨some 18,.buildSlice 66 1 #[(0,.tmp 17)],_,_,_,_⟩) ?_ (.tmp 17) ?_ x ?_ XL.out Tryz.underlying66 sizeSigK zeroSig nSig ?_);rfl;rfl;rfl) | (at_builtin;refine wpList_append_K (K:=KSig) _ rfl _ _ 66 rfl w.heap.size 122 i0 _ 36 Tryz.underlying66 hi hz0 hz1 hz2 hzl (by omega) _ k (L.take k) rfl O1.out (some ⟨w1.heap.size,0,none⟩) 1 1 [x] rfl R2.out rfl VL.out VS.out ?_;intro v3 w3 ho3 hg3;have O3:=Yy ho3;have B3:=Yy (B2.out.grown hg3 B2.out.size (fun g hg=>own_base O1.out hg));obtain⟨g13,cap13,rfl⟩:=ownsRow_succ ho3;clear ho3 hg3));go_roundw
    case rel=>exact⟨k+1,q - 8,f,by omega,HZF.out,by have:=HQN.out;omega,rfl,HNF.out,by rw[HTK.out];exact O3.out,B3.out⟩
    case measure=>simp only[HZF.out];have:=HQ.out;omega
   ·obtain rfl:k=m:=by omega
    have t1:¬ (8:Int)≤(q:Int):=by omega
    have hT:L.take k=L:=List.take_of_length_le (by rw[HLN.out];exact Nat.le_refl _);rw[hT]at ho;have hll:=HLN.out;rw[← hll]at ho;have HO:=Yy ho;clear ho hb hT hll hR;go_wp2;go_ret;exact kpostN_own HO.out HOK.out HBB.out
end
section
open Go.RowKit WM
end
section
open Go.RowKit WM
end
section
open Go.RowKit WM
end
end
section
open Go.RowKit WM
def z7:List Int:=[7,0,0,0,0,0,0,0,0,0,0,0,0,0,0,0]
theorem z7_len:z7.length=16:=rfl
theorem z7_bytes:AllBytes z7:=by unfold AllBytes z7;decide
def recX:Rc:=⟨z7,0,0,[⟨2,⟨1,1,⟨#[120]⟩⟩⟩]⟩
theorem write_X:bwrite [] z7 2 1 ⟨#[120]⟩=(0,[recX]):=rfl
theorem bat_X:bat [recX] z7=some recX:=rfl
theorem built_z7:Tryz.prog.built 31 [(0,.int .u8 7)]=some (bvals z7):=by kernel_rfl
theorem build_z7 (w:World):(Instr.build 31 #[(0,.int .u8 7)]).run Tryz.prog w=.ok (.agg (bvals z7)) w:=run_build w _ _ _ built_z7
end
end Go.Proofs.YtnlhkpmgbpfjmaaGreatDoor
