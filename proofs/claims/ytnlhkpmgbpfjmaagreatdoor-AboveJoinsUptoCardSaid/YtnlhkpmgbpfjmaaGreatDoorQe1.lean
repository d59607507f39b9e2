import Derived.Test.YtnlhkpmgbpfjmaaGreatDoorQe0
import Derived.WalkKit
import Derived.Laws.BitsAllLaws
import Derived.Laws.BytesArg
import Derived.Deep.OwnRows
import Derived.Deep.Draws
import Derived.Lib.Hide
import Derived.Deep.RegionHeld3
import Derived.Laws.AppendOwnNone
import Derived.OpenShut
import Derived.Lib.AppendStr
import Derived.Test.YtnlhkpmgbpfjmaaGreatDoorProg
import Derived.WalkMore
import Derived.Laws.Cover1
/- What functions answer, part 1. -/
namespace Go.Proofs.YtnlhkpmgbpfjmaaGreatDoor
set_option linter.unusedVariables false
set_option linter.unusedSimpArgs false
set_option maxHeartbeats 16000000
set_option maxRecDepth 100000
section
section
namespace WM
def encH:Nat→Int→List Int
 | 0,_=>[]
 | f+1,m=>if m=0 then [] else encH f (m / 128)++[m % 128+128]
def enc (n:Int):List Int:=encH 9 (n / 128)++[n % 128]
def AllBytes (zs:List Int):Prop:=∀ z∈zs,0≤z∧z≤255
theorem encH_zero (f:Nat):encH f 0=[]:=by cases f<;>simp[encH]
theorem encH_len:∀ (f:Nat) (m:Int),(encH f m).length≤f
 | 0,m=>by simp[encH]
 | f+1,m=>by
  unfold encH;have:=encH_len f (m / 128)
  split<;>simp<;>omega
theorem encH_bytes:∀ (f:Nat) (m:Int),∀ z∈encH f m,128≤z∧z≤255
 | 0,m=>by simp[encH]
 | f+1,m=>by
  intro z hz;unfold encH at hz
  split at hz
  ·simp at hz
  ·rcases List.mem_append.1 hz with h | h
   ·exact encH_bytes f _ z h
   ·simp at h;omega
theorem enc_bytes (n:Int):AllBytes (enc n):=by
 intro z hz;rcases List.mem_append.1 hz with h | h
 ·have:=encH_bytes 9 _ z h;omega
 ·simp at h;omega
theorem enc_len (n:Int):1≤(enc n).length∧(enc n).length≤10:=by
 have:=encH_len 9 (n / 128);unfold enc;simp;omega
end WM
end
section
open Go.RowKit WM
theorem or_eight (a y:Int) (h0:0≤a) (h1:a≤16777215) (h2:0≤y) (h3:y<256):bits .or .u32 (a*256) y=a*256+y:=by
 rw[u32_or _ _ (by omega) (by omega) h2 (by omega)];have:=Nat.two_pow_add_eq_or_of_lt (i:=8) (b:=y.toNat) (by omega) a.toNat;rw[show (a*256).toNat=2 ^ 8*a.toNat by omega,← this];omega
theorem low_seven (z:Int) (h0:0≤z) (h1:z≤255):bits .andNot .u8 z 128=z % 128:=by
 rw[u8_andNot _ _ h0 (by omega) (by omega) (by omega)];have:=Nat.and_two_pow_sub_one_eq_mod z.toNat 7;simp only[show (255 - Int.toNat 128)=2 ^ 7 - 1 by decide,this];omega
theorem top_set (z:Int) (h0:0≤z) (h1:z≤255):bits .or .u8 z 128=z % 128+128:=by
 by_cases h:z<128
 ·have:=Nat.two_pow_add_eq_or_of_lt (i:=7) (b:=z.toNat) (by omega) 1;rw[u8_or _ _ h0 (by omega) (by omega) (by omega),Nat.or_comm,show Int.toNat 128=2 ^ 7*1 by decide,← this];omega
 ·have:=Nat.two_pow_add_eq_or_of_lt (i:=7) (b:=z.toNat - 128) (by omega) 1;rw[u8_or _ _ h0 (by omega) (by omega) (by omega),Nat.or_comm,show Int.toNat 128=2 ^ 7*1 by decide];rw[show z.toNat=2 ^ 7*1+(z.toNat - 128) by omega,this,← Nat.or_assoc,Nat.or_self,← this];omega
def Byt (w:World) (B:Nat) (A:Option Addr) (zs:List Int):Prop:=
 zs≠[]→∃ b off,A=some ⟨b,off,none⟩∧b<B∧∀ i,i<zs.length→w.cell? ⟨b,off+i,none⟩=some (.int .u8 (zs.getD i 0))
variable {w w':World} {B B':Nat} {A:Option Addr} {zs:List Int}
theorem Byt.nil:Byt w B A []:=fun h=>absurd rfl h
theorem Byt.move (h:Byt w B A zs) (hk:∀ p:Addr,p.block<B→w'.cell? p=w.cell? p):Byt w' B A zs:=fun hn=>by
 obtain⟨b,off,e,hb,hc⟩:=h hn;exact⟨b,off,e,hb,fun i hi=>(hk _ hb).trans (hc i hi)⟩
theorem Byt.wide (h:Byt w B A zs) (hB:B≤B'):Byt w B' A zs:=fun hn=>by
 obtain⟨b,off,e,hb,hc⟩:=h hn;exact⟨b,off,e,by omega,hc⟩
theorem Byt.below (h:Byt w B A zs) (hb:Below B w w'):Byt w' B A zs:=h.move fun _ hp=>hb.cell hp
theorem Byt.take (h:Byt w B A zs) (k:Nat):Byt w B A (zs.take k):=fun hn=>by
 obtain⟨b,off,e,hb,hc⟩:=h (fun e=>hn (by simp[e]));refine⟨b,off,e,hb,fun i hi=>?_⟩;have hi':i<k∧i<zs.length:=by simpa [List.length_take,Nat.lt_min] using hi
 rw[hc i hi'.2];simp[List.getD,hi'.1]
theorem Byt.drop (h:Byt w B A zs) {k cap:Nat} (hc:zs.length≤cap):
  Byt w B (if cap=k then A else A.map (·.add k)) (zs.drop k):=fun hn=>by
 have hlt:k<zs.length:=by
  rcases Nat.lt_or_ge k zs.length with h1 | h1
  ·exact h1
  ·exact absurd (List.drop_eq_nil_of_le h1) hn
 obtain⟨b,off,rfl,hb,hcell⟩:=h (fun e=>by simp[e]at hlt);rw[if_neg (by omega)];refine⟨b,off+k,by simp[Addr.add],hb,fun i hi=>?_⟩;have hi':k+i<zs.length:=by simp at hi;omega
 rw[Nat.add_assoc,hcell (k+i) hi'];simp[List.getD,List.getElem?_drop]
theorem Byt.own {base:Nat} {e:TypeId} {n c:Nat} (h:w.ownsRow base e 1 (.slice A n c) n (zs.map (Value.int .u8))):Byt w w.heap.size A zs:=fun hn=>by
 have hl:zs.length=n:=by simpa using h.1
 have h0:0<n:=by
  rw[← hl];exact List.length_pos_iff.2 hn
 rcases h.2 with ⟨_,h1⟩ | ⟨g,cap,cur,hv,_,hh,hnc,_,hsz,htk⟩
 ·omega
 have hA:A=some ⟨g,0,none⟩:=by injection hv
 subst hA;have hlt:g<w.heap.size:=by
  rcases Nat.lt_or_ge g w.heap.size with h1 | h1
  ·exact h1
  ·rw[Array.getElem?_eq_none h1]at hh;cases hh
 refine⟨g,0,rfl,hlt,fun i hi=>?_⟩;rw[Nat.zero_add,cell_of_row w g i cur e (0,0) hh];have h2:=congrArg (fun l=>l[i]?) htk;simp only[List.getElem?_take,Nat.mul_one,show i<n by omega,if_true,Array.getElem?_toList,List.getElem?_map,List.getElem?_eq_getElem hi,Option.map_some]at h2;rw[h2];simp[List.getD,List.getElem?_eq_getElem hi]
theorem wpList_append_byt {P:Program} (w:World) {ops:Array Oper} {rest:List Oper} {o:Oper} {a:Act} {Q:Exit→Act→World→Prop} (hgd:o.guard=none) (s x:Operand) (t:TypeId)
  (ho:o.op=.call { callee:=.builtin .append,args:=#[s,x],argTypes:=#[t,t]})
  (base:Nat) (e:TypeId) (i:TypeInfo) (ht:P.underlying t=some (.slice e)) (hi:P.info? e=some i) (hz:i.zero=some (.int .u8 0)) (hsize:i.size=1) (hby:i.bytes=1)
  (v:Value) (n:Nat) (ys:List Int) (hs:a.eval s=v) (hown:w.ownsRow base e 1 v n (ys.map (Value.int .u8)))
  (B:Nat) (A:Option Addr) (m c:Nat) (zs:List Int) (hx:a.eval x=.slice A m c) (hr:Byt w B A zs) (hl:zs.length=m) (hnil:A=none→c=0) (hlen:n+m≤140737488355328) (hbase:base≤w.heap.size)
  (h:∀ v' w',w'.ownsRow base e 1 v' (n+m) ((ys++zs).map (Value.int .u8))→w.grownBy w' v.ownBlock→wpList P ops Q rest (a.put o.dst v') w'):wpList P ops Q (o::rest) a w:=by
 have fin:∀ ad:Addr,A=some ad→(∀ j u,(zs.map (Value.int .u8))[j]?=some u→w.cell? (ad.add j)=some u)→wpList P ops Q (o::rest) a w:=by
  intro ad hA hc;subst hA;refine wpList_append_own w hgd s x t ho base e i (.int .u8 0) 1 1 ht hi hz hsize hby rfl (by omega) v n _ hs hown ad m c (zs.map (Value.int .u8)) hx (by simp[hl]) hc (by
   intro u hu;obtain⟨_,_,rfl⟩:=List.mem_map.1 hu
   rfl) (by simp only[maxLen];omega) (by omega) hbase ?_
  intro v' w' h1 h2 _;exact h v' w' (by rw[List.map_append];exact h1) h2
 by_cases hn:zs=[]
 ·subst hn;cases A with
  | none=>
   have hc0:=hnil rfl;simp at hl;subst hl;subst hc0;refine wpList_append_own_none hgd s x t ho base e i 1 ht hi v n _ hs hown hx ?_;exact h v w (by simpa using hown) (World.grownBy.refl w _)
  | some ad=>exact fin ad rfl (fun j u hj=>by simp at hj)
 ·obtain⟨b,off,hA,_,hc⟩:=hr hn;refine fin _ hA (fun j u hj=>?_);rw[List.getElem?_map,Option.map_eq_some_iff]at hj;obtain⟨z,hz1,rfl⟩:=hj;have hjl:=(List.getElem?_eq_some_iff.1 hz1).1;rw[Addr.add_lit,hc j hjl];simp[List.getD,hz1]
theorem own_new (w:World) (base:Nat) (hb:base≤w.heap.size) (e:TypeId) (zs:List Int) (hl:zs.length≤maxLen):
  (w.alloc (.cells (zs.map (Value.int .u8)).toArray e)).ownsRow base e 1 (.slice (some ⟨w.heap.size,0,none⟩) zs.length zs.length) zs.length (zs.map (Value.int .u8)):=by
 refine⟨by simp,.inr ⟨w.heap.size,zs.length,(zs.map (Value.int .u8)).toArray,rfl,hb,heap_alloc_new w _,Nat.le_refl _,hl,by simp,?_⟩⟩;rw[List.take_of_length_le (by simp)]
theorem own_below {w w':World} {base size n:Nat} {e:TypeId} {v:Value} {xs:List Value} (h:w.ownsRow base e size v n xs) (hb:Below w.heap.size w w'):w'.ownsRow base e size v n xs:=by
 refine⟨h.1,?_⟩;rcases h.2 with h1 | ⟨g,cap,cur,h1,h2,hh,h4⟩
 ·exact .inl h1
 ·refine .inr ⟨g,cap,cur,h1,h2,?_,h4⟩;have hlt:g<w.heap.size:=by
   rcases Nat.lt_or_ge g w.heap.size with h3 | h3
   ·exact h3
   ·rw[Array.getElem?_eq_none h3]at hh;cases hh
  rw[hb.block g hlt];exact hh
theorem own_base {w:World} {base size n g:Nat} {e:TypeId} {v:Value} {xs:List Value} (h:w.ownsRow base e size v n xs) (hg:v.ownBlock=some g):base≤g:=by
 rcases h.2 with ⟨rfl,_⟩ | ⟨g',cap,cur,rfl,hb,_⟩
 ·simp[Value.ownBlock]at hg
 ·simp[Value.ownBlock]at hg;omega
theorem own_nil {w:World} {base n c:Nat} {e:TypeId} {A:Option Addr} {xs:List Value} (h:w.ownsRow base e 1 (.slice A n c) n xs) (hA:A=none):c=0:=by
 rcases h.2 with ⟨h1,_⟩ | ⟨g,cap,cur,h1,_⟩
 ·injection h1
 ·injection h1 with h1;rw[hA]at h1;cases h1
theorem strOfNums_inj {xs ys:List Int} (hx:AllBytes xs) (hy:AllBytes ys):strOfNums xs=strOfNums ys↔xs=ys:=by
 constructor
 ·intro h;have h1:xs.map (fun n=>UInt8.ofNat n.toNat)=ys.map fun n=>UInt8.ofNat n.toNat:=by rw[← strOfNums_data,← strOfNums_data,h]
  clear h
  induction xs generalizing ys with
  | nil=>cases ys with
   | nil=>rfl
   | cons y ys=>simp at h1
  | cons x xs ih=>cases ys with
   | nil=>simp at h1
   | cons y ys=>
    simp only[List.map_cons,List.cons.injEq]at h1;have h2:=congrArg UInt8.toNat h1.1;simp only[UInt8.toNat_ofNat']at h2;have a:=hx x (by simp);have b:=hy y (by simp);rw[ih (fun z hz=>hx z (by simp[hz])) (fun z hz=>hy z (by simp[hz])) h1.2,show x=y by omega]
 ·rintro rfl;rfl
end
section
open Go.RowKit WM
theorem infoByte:(Tryz.prog.info? 5).map (fun i=>(i.zero,i.size,i.bytes))=some (some (.int .u8 0),1,1):=by kernel_rfl
theorem one_cell {w:World} {o:Obj} {u:Value} {e:TypeId} (ho:o=.cells #[u] e):∀ j v,([u]:List Value)[j]?=some v→(w.alloc o).cell? ((⟨w.heap.size,0,none⟩:Addr).add j)=some v:=by
 subst ho;intro j v hj
 match j,hj with
 | 0,hj=>
  simp at hj;subst hj;have hh:(w.alloc (.cells #[u] e)).heap[w.heap.size]?=some (.cells #[u] e):=heap_alloc_new w _;rw[Addr.add_lit,cell_of_row _ _ _ _ _ _ hh]
  rfl
def Gives (w:World) (zs:List Int) (e:Ending) (w':World):Prop:=
 ∃ A n c,e=.returned (.slice A n c)∧zs.length=n∧n≤c∧c≤maxLen∧w'.ownsRow w.heap.size 5 1 (.slice A n c) n (zs.map (Value.int .u8))∧Below w.heap.size w w'
theorem Tta29 {p:Prop} (h:p:=by
  have hl:zs.length=n:=by simpa using ho.1
  rcases ho.2 with ⟨rfl,rfl⟩ | ⟨g,cap,cur,rfl,_,_,hnc,hcm,_⟩
  ·exact⟨none,0,0,rfl,hl,by omega,by decide,ho,hb⟩
  ·exact⟨_,n,cap,rfl,hl,hnc,hcm,ho,hb⟩
 ):p:=h
theorem gives_own {w w':World} {v:Value} {n:Nat} {zs:List Int} (ho:w'.ownsRow w.heap.size 5 1 v n (zs.map (Value.int .u8))) (hb:Below w.heap.size w w'):Gives w zs (.returned v) w':=by
 exact Tta29
def GivesT (w:World) (zs:List Int) (e:Ending) (w':World):Prop:=
 ∃ A n c,e=.returned (.tuple #[.slice A n c,.bool true])∧zs.length=n∧n≤c∧c≤maxLen∧w'.ownsRow w.heap.size 5 1 (.slice A n c) n (zs.map (Value.int .u8))∧Below w.heap.size w w'
theorem givesT_own {w w':World} {v:Value} {n:Nat} {zs:List Int} (ho:w'.ownsRow w.heap.size 5 1 v n (zs.map (Value.int .u8))) (hb:Below w.heap.size w w'):GivesT w zs (.returned (.tuple #[v,.bool true])) w':=by
 exact Tta29
def nums (s:ByteArray):List Int:=s.data.toList.map fun b=>(b.toNat:Int)
theorem nums_len (s:ByteArray):(nums s).length=s.size:=by rw[nums,List.length_map,Array.length_toList];rfl
theorem nums_cells (s:ByteArray):(nums s).map (Value.int .u8)=Lib.strCells s:=by simp[nums,Lib.strCells]
theorem nums_bytes (s:ByteArray):AllBytes (nums s):=by
 intro z hz;simp only[nums,List.mem_map]at hz;obtain⟨b,_,rfl⟩:=hz;have:=b.toNat_lt;omega
theorem str_nums (s:ByteArray):strOfNums (nums s)=s:=by
 unfold strOfNums nums;rw[List.map_map];have:((fun n:Int=>UInt8.ofNat n.toNat) ∘ fun b:UInt8=>(b.toNat:Int))=id:=by funext b;simp
 rw[this,List.map_id]
def txt (s:ByteArray):List Int:=enc s.size++nums s
theorem txt_bytes (s:ByteArray):AllBytes (txt s):=by
 intro z hz;rcases List.mem_append.1 hz with h | h
 ·exact enc_bytes _ z h
 ·exact nums_bytes _ z h
theorem all_append {xs ys:List Int} (h1:AllBytes xs) (h2:AllBytes ys):AllBytes (xs++ys):=fun z hz=>by
 rcases List.mem_append.1 hz with h | h
 ·exact h1 z h
 ·exact h2 z h
theorem all_get {zs:List Int} (hb:AllBytes zs) (j:Nat):0≤zs.getD j 0∧zs.getD j 0≤255:=by
 rcases Nat.lt_or_ge j zs.length with h1 | h1
 ·have:=hb _ (List.getElem_mem h1)
  simpa [List.getD,List.getElem?_eq_getElem h1] using this
 ·simp[List.getD,List.getElem?_eq_none h1]
theorem all_take {zs:List Int} (hb:AllBytes zs) (j:Nat):AllBytes (zs.take j):=fun z hz=>hb z (List.mem_of_mem_take hz)
theorem all_drop {zs:List Int} (hb:AllBytes zs) (j:Nat):AllBytes (zs.drop j):=fun z hz=>hb z (List.mem_of_mem_drop hz)
theorem sizeByte (w:World):(sizeOf 5).run Tryz.prog w=.ok 1 w:=by
 simp[sizeOf,go_sem]
 rfl
theorem elemByte:Tryz.prog.elem 105=5:=by kernel_rfl
theorem sl_lh (b off len cap l h:Nat) (h1:l≤h) (h2:h≤cap) (h3:l<cap) (L H:Int) (eL:L=l) (eH:H=h) (w:World):(Instr.slice 105 (.slice (some ⟨b,off,none⟩) len cap) (some (.int .i64 L)) (some (.int .i64 H)) none).run Tryz.prog w=.ok (.slice (some ⟨b,off+l,none⟩) (h - l) (cap - l)) w:=by
 subst eL eH;rw[run_slice_lh w 105 _ len cap (by rw[elemByte];exact Tryz.underlying105) .i64 .i64 l h (by omega) (by omega) (by omega),elemByte,sizeByte];simp[sliced,Result.andThen,Addr.add_lit];omega
theorem Tta38 {p:Prop} (h:p:=by
  simp only[sliced,Result.andThen,Int.toNat_natCast,Nat.zero_mul,Nat.sub_zero];cases A with
  | none=>simp
  | some a=>obtain⟨b,off,s⟩:=a;simp[Addr.add]
 ):p:=h
theorem sl_h (A:Option Addr) (len cap h:Nat) (h2:h≤cap) (H:Int) (eH:H=h) (w:World):(Instr.slice 105 (.slice A len cap) none (some (.int .i64 H)) none).run Tryz.prog w=.ok (.slice A h cap) w:=by
 subst eH;rw[run_slice_h w 105 _ len cap (by rw[elemByte];exact Tryz.underlying105) .i64 h (by omega) (by omega),elemByte,sizeByte];exact Tta38
theorem sl_l (A:Option Addr) (len cap l:Nat) (h1:l≤len) (L:Int) (eL:L=l) (w:World):(Instr.slice 105 (.slice A len cap) (some (.int .i64 L)) none none).run Tryz.prog w=.ok (.slice (if cap=l then A else A.map (·.add l)) (len - l) (cap - l)) w:=by
 subst eL;rw[run_slice_l w 105 _ len cap (by rw[elemByte];exact Tryz.underlying105) .i64 l (by omega) (by omega),elemByte,sizeByte];simp[sliced,Result.andThen]
end
section
open Go.RowKit WM
def st (n r:Int):Value:=.agg #[.int .i64 n,.int .i64 r]
def mayR (r:Int):Bool:=decide (0≤r∧r<8)
def may (n r:Int):Bool:=decide ((n=0∧r=0)∨1≤n∧n≤1099511627776∧0≤r∧r<8)
theorem may_iff {n r:Int}:may n r=true↔(n=0∧r=0)∨1≤n∧n≤1099511627776∧0≤r∧r<8:=by rw[may,decide_eq_true_iff]
theorem mayRep_any (r:Int) (w:World):Calls Tryz.prog 93 #[.int .i64 r] w fun e w'=>e=.returned (.bool (mayR r))∧w'=w:=by
 by_cases h0:0≤r
 ·go_enter Tryz.func93,Tryz.ntmps93;go_wp2;go_ret;exact⟨by simp[mayR,h0],rfl⟩
 ·go_enter Tryz.func93,Tryz.ntmps93;go_wp2;go_ret;exact⟨by rw[mayR,decide_eq_false (by omega)];rfl,rfl⟩
theorem Tta32 {p:Prop} (h:p:=by
  have hm:=Yy (show may n r=false by rw[may,decide_eq_false_iff_not];omega);go_enter Tryz.func68,Tryz.ntmps68;go_wp2;go_ret;exact⟨by rw[hm.out];rfl,hbel.out _⟩
 ):p:=h
theorem may_any (n r:Int) (w:World):Calls Tryz.prog 68 #[st n r] w fun e w'=>e=.returned (.bool (may n r))∧Below w.heap.size w w':=by
 unfold st;have hbel:=Yy (fun (o:Obj)=>(Below.refl w.heap.size w).alloc Nl o);by_cases h0:n=0
 ·subst h0;by_cases h1:r=0
  ·subst h1;go_enter Tryz.func68,Tryz.ntmps68;go_wp2;go_ret;exact⟨rfl,hbel.out _⟩
  ·have hm:=Yy (show may 0 r=false by rw[may,decide_eq_false_iff_not];omega);go_enter Tryz.func68,Tryz.ntmps68;go_wp2;go_ret;exact⟨by rw[hm.out];rfl,hbel.out _⟩
 ·by_cases h1:1≤n
  ·by_cases h2:n≤1099511627776
   ·have hm:=Yy (show mayR r=may n r by rw[mayR,may,decide_eq_decide];omega);go_enter Tryz.func68,Tryz.ntmps68;go_wp2_with fail;refine (mayRep_any r _).mono ?_;rintro e w1 ⟨rfl,rfl⟩;go_wp2;go_ret;exact⟨by rw[← hm.out];rfl,hbel.out _⟩
   ·exact Tta32
  ·exact Tta32
def stLess (n r m s:Int):Bool:=decide (n<m∨n=m∧r<s)
theorem Tta51 {p:Prop} (h:p:=by
  go_enter Tryz.func31,Tryz.ntmps31;go_wp2;go_ret;exact⟨by rw[hm.out];rfl,hbel.out _ _⟩
 ):p:=h
theorem stLess_any (n r m s:Int) (w:World):Calls Tryz.prog 31 #[st n r,st m s] w fun e w'=>e=.returned (.bool (stLess n r m s))∧Below w.heap.size w w':=by
 unfold st;have hbel:=Yy (fun (o o':Obj)=>((Below.refl w.heap.size w).alloc Nl o).alloc (by simp) o');by_cases h1:n=m
 ·subst h1;by_cases h0:r=s
  ·subst h0;have hm:=Yy (show stLess n r n r=false by rw[stLess,decide_eq_false_iff_not];omega);exact Tta51
  ·have hm:=Yy (show stLess n r n s=decide (r<s) by rw[stLess,decide_eq_decide];omega);exact Tta51
 ·have hm:=Yy (show stLess n r m s=decide (n<m) by rw[stLess,decide_eq_decide];omega);exact Tta51
def StAt (w:World) (b:Nat) (n r:Int):Prop:=w.heap[b]?=some (.cells #[.int .i64 n,.int .i64 r] 33)
theorem StAt.c0 {w:World} {b:Nat} {n r:Int} (h:StAt w b n r):w.cell? ⟨b,0,none⟩=some (.int .i64 n):=by rw[cell_of_row _ _ _ _ _ _ h];rfl
theorem StAt.c1 {w:World} {b:Nat} {n r:Int} (h:StAt w b n r):w.cell? ⟨b,1,none⟩=some (.int .i64 r):=by rw[cell_of_row _ _ _ _ _ _ h];rfl
theorem StAt.fz {w:World} {b:Nat} {n r:Int} (h:StAt w b n r) (j:Nat):w.frozen? ⟨b,j,none⟩=false:=frozen_of_row _ _ _ _ _ h
theorem StAt.lt {w:World} {b:Nat} {n r:Int} (h:StAt w b n r):b<w.heap.size:=by
 rcases Nat.lt_or_ge b w.heap.size with h1 | h1
 ·exact h1
 ·unfold StAt at h;rw[Array.getElem?_eq_none h1]at h;cases h
theorem StAt.below {w w':World} {b B:Nat} {n r:Int} (h:StAt w b n r) (hb:Below B w w') (hB:b<B):StAt w' b n r:=by
 unfold StAt;rw[hb.block b hB];exact h
theorem StAt.new (w:World) (n r:Int):StAt (w.alloc (.cells #[.int .i64 n,.int .i64 r] 33)) w.heap.size n r:=heap_alloc_new w _
theorem StAt.old {w:World} {b:Nat} {n r:Int} (h:StAt w b n r) (o:Obj):StAt (w.alloc o) b n r:=h.below ((Below.refl w.heap.size w).alloc Nl o) h.lt
theorem StAt.put {w:World} {b:Nat} {n r:Int} (h:StAt w b n r) (m s:Int):StAt ((w.setCell ⟨b,0,none⟩ (.int .i64 m)).setCell ⟨b,1,none⟩ (.int .i64 s)) b m s:=by
 unfold StAt;rw[heap_setCell_same _ _ _ _ _ _ (heap_setCell_same _ _ _ _ _ _ h)]
 rfl
theorem below_put {B:Nat} {a w:World} (h:Below B a w) {b:Nat} (hb:B≤b) (u v:Value):Below B a ((w.setCell ⟨b,0,none⟩ u).setCell ⟨b,1,none⟩ v):=(h.setCell hb u).setCell hb v
theorem load_st {w:World} {b:Nat} {n r:Int} (h:StAt w b n r):(loadVar 33 ⟨b,0,none⟩).run Tryz.prog w=.ok (st n r) w:=
 run_loadVar_row w b 33 33 _ (0,0) _ h Tryz.underlying33 rfl (by kernel_rfl)
theorem res_st {fn:Func} {p:Tmp} (h:fn.results=#[.cell p 33]) {tmps:Array Value} {w:World} {b:Nat} {n r:Int} (hp:tmps.getD p undef=.pointer (some ⟨b,0,none⟩)) (hs:StAt w b n r):
  (results fn tmps).run Tryz.prog w=.ok (st n r) w:=by
 have hp':tmps[p]?.getD undef=.pointer (some ⟨b,0,none⟩):=by simpa using hp
 simp[results,h,hp',asAddr,load_st hs]
theorem res_st2 {fn:Func} {p q:Tmp} (h:fn.results=#[.cell p 33,.tmp q]) {tmps:Array Value} {w:World} {b:Nat} {n r:Int} (hp:tmps.getD p undef=.pointer (some ⟨b,0,none⟩)) (hs:StAt w b n r):
  (results fn tmps).run Tryz.prog w=.ok (.tuple #[st n r,tmps.getD q undef]) w:=by
 have hp':tmps[p]?.getD undef=.pointer (some ⟨b,0,none⟩):=by simpa using hp
 simp[results,h,hp',asAddr,load_st hs]
end
section
open Go.RowKit WM
def PutInv (n:Int) (w:World) (k:Nat) (v:Value) (wr:World):Prop:=
 ∃ L:List Int,(k≤9→L=encH k (n / 2 ^ (7*(10 - k))))∧(k=10→L=enc n)∧v=.slice (some ⟨w.heap.size,0,none⟩) L.length 10 ∧
  wr.ownsRow w.heap.size 5 1 v L.length (L.map (Value.int .u8))∧Below w.heap.size w wr
theorem pow_step (n:Int) (k:Nat) (hk:k≤9):n / 2 ^ (7*(10 - k))=n / 2 ^ (7*(9 - k)) / 128:=by
 rw[show 7*(10 - k)=7*(9 - k)+7 by omega,Int.pow_add,Int.ediv_ediv_of_nonneg (Int.le_of_lt (Int.pow_pos (by omega)))]
 rfl
theorem put_skip {n:Int} {w wr:World} {k:Nat} {v:Value} (h:PutInv n w k v wr) (hk:k<9) (hz:n / 2 ^ (7*(9 - k))=0):PutInv n w (k+1) v wr:=by
 obtain⟨L,h1,_,h3,h4,h5⟩:=h;refine⟨L,fun _=>?_,fun h=>by omega,h3,h4,h5⟩;rw[h1 (by omega),pow_step n k (by omega),show 10 - (k+1)=9 - k by omega,hz];simp[encH_zero]
theorem put_more {n:Int} {w wr w1:World} {k:Nat} {L:List Int} {o:Obj} (hk:k<9) (h1:k≤9→L=encH k (n / 2 ^ (7*(10 - k)))) (h5:Below w.heap.size w wr) (hz:¬ n / 2 ^ (7*(9 - k))=0) {c:Int} (hc:c=n / 2 ^ (7*(9 - k)) % 128+128)
  (ho:w1.ownsRow w.heap.size 5 1 (.slice (some ⟨w.heap.size,0,none⟩) (L.length+1) 10) (L.length+1) (L.map (Value.int .u8)++[.int .u8 c])) (hg:(wr.alloc o).grownBy w1 (some w.heap.size)):
  PutInv n w (k+1) (.slice (some ⟨w.heap.size,0,none⟩) (L.length+1) 10) w1:=by
 refine⟨L++[c],fun _=>?_,fun h=>by omega,by simp,by simpa using ho,?_⟩
 ·rw[encH,show 10 - (k+1)=9 - k by omega,if_neg hz,← pow_step n k (by omega),← h1 (by omega),hc]
 ·exact (h5.alloc h5.size o).grown hg (by simpa using Nat.le_succ_of_le h5.size) (fun g hg=>by simp at hg;omega)
theorem put_last {n:Int} {w wr w1:World} {L:List Int} {o:Obj} (h1:9≤9→L=encH 9 (n / 2 ^ (7*(10 - 9)))) (h5:Below w.heap.size w wr) {c:Int} (hc:c=n % 128)
  (ho:w1.ownsRow w.heap.size 5 1 (.slice (some ⟨w.heap.size,0,none⟩) (L.length+1) 10) (L.length+1) (L.map (Value.int .u8)++[.int .u8 c])) (hg:(wr.alloc o).grownBy w1 (some w.heap.size)):
  PutInv n w 10 (.slice (some ⟨w.heap.size,0,none⟩) (L.length+1) 10) w1:=by
 refine⟨L++[c],fun h=>by omega,fun _=>?_,by simp,by simpa using ho,?_⟩
 ·rw[enc,hc,h1 (by omega)];rfl
 ·exact (h5.alloc h5.size o).grown hg (by simpa using Nat.le_succ_of_le h5.size) (fun g hg=>by simp at hg;omega)
theorem put_any (n:Int) (w:World) (h0:0≤n) (h1:n≤18446744073709551615):
  Calls Tryz.prog 106 #[.int .u64 n] w fun e w'=>∃ v,e=.returned v∧PutInv n w 10 v w':=by
 obtain⟨i0,hi,hz0,hz1,hz2⟩:=info_parts infoByte;go_enter Tryz.func106,Tryz.ntmps106;go_wp2_with (at_make;refine wpList_make_own _ rfl _ _ 105 rfl w.heap.size 5 i0 (.int .u8 0) 1 Tryz.underlying105 hi hz0 hz1 .i64 .i64 10 10 rfl rfl rfl (by omega) (by decide) Nl ?_;intro w1 hown hgrow);go_loopw [3,8] (fun v i wr=>∃ k:Nat,k≤10∧i=.int .i64 k∧PutInv n w k v wr) (fun _ i _=>10 - (intOf i).toNat)
 case atStart=>exact⟨0,by omega,rfl,[],fun _=>rfl,fun h=>by omega,rfl,hown,(Below.refl _ _).grown hgrow Nl (fun _ h=>by cases h)⟩
 case round=>
  obtain⟨k,hk,rfl,hinv⟩:=hrel;clear hown hgrow;by_cases hk9:k<10
  ·by_cases hk8:k<9
   ·by_cases hz:n / 2 ^ (7*(9 - k))=0
    ·have hzb:(n / 2 ^ (7*(9 - k)) != 0)=false:=by simp[hz]
     have H:=Yy (put_skip hinv hk8 hz);clear hinv hz;go_wp2;go_roundw
     case rel=>exact⟨k+1,by omega,by go_num,H.out⟩
     case measure=>simp[intOf];omega
    ·have hzb:(n / 2 ^ (7*(9 - k)) != 0)=true:=by simp[hz]
     have hz':=Yy hz;clear hz;obtain⟨L,a1,_,rfl,ho,a5⟩:=hinv;have hlen:L.length≤k:=by rw[a1 (by omega)];exact encH_len _ _
     have A1:=Yy a1;have hc:=Yy (top_set (n / 2 ^ (7*(9 - k)) % 256) (by omega) (by omega));clear a1;go_wp2_with (at_builtin;refine wpList_append_fits _ rfl _ _ 105 rfl w.heap.size 5 i0 1 Tryz.underlying105 hi hz1 w.heap.size L.length 10 _ rfl (ho.alloc _) ⟨wr.heap.size,0,none⟩ 1 1 [.int .u8 (bits BinOp.or IntKind.u8 (n / 2 ^ (7*(9 - k)) % 256) 128)] rfl rfl (one_cell rfl) (by intro u hu;simp at hu;subst hu;rfl) (by omega) ?_;intro w2 ho2 hg2);go_roundw
     case rel=>exact⟨k+1,by omega,by go_num,put_more hk8 A1.out a5 hz'.out (by rw[hc.out];omega) ho2 hg2⟩
     case measure=>simp[intOf];omega
   ·obtain rfl:k=9:=by omega
    obtain⟨L,a1,_,rfl,ho,a5⟩:=hinv;have hlen:L.length≤9:=by rw[a1 (by omega)];exact encH_len _ _
    have A1:=Yy a1;have hc:=Yy (low_seven (n % 256) (by omega) (by omega));clear a1;go_wp2_with (at_builtin;refine wpList_append_fits _ rfl _ _ 105 rfl w.heap.size 5 i0 1 Tryz.underlying105 hi hz1 w.heap.size L.length 10 _ rfl (ho.alloc _) ⟨wr.heap.size,0,none⟩ 1 1 [.int .u8 (bits BinOp.andNot IntKind.u8 (n % 256) 128)] rfl rfl (one_cell rfl) (by intro u hu;simp at hu;subst hu;rfl) (by omega) ?_;intro w2 ho2 hg2);go_roundw
    case rel=>exact⟨10,by omega,rfl,put_last A1.out a5 (by rw[hc.out];omega) ho2 hg2⟩
    case measure=>simp[intOf]
  ·obtain rfl:k=10:=by omega
   have H:=Yy hinv;clear hinv;go_wp2;go_ret;exact⟨_,rfl,H.out⟩
theorem put_gives (n:Int) (w:World) (h0:0≤n) (h1:n≤18446744073709551615):Calls Tryz.prog 106 #[.int .u64 n] w (Gives w (enc n)):=by
 refine (put_any n w h0 h1).mono ?_;rintro e w' ⟨v,rfl,L,_,hL,rfl,ho,hb⟩;have hLe:=hL rfl;subst hLe;exact⟨_,_,_,rfl,rfl,(enc_len n).2,by decide,ho,hb⟩
end
section
open Go.RowKit WM
theorem own_wide {w:World} {base base' size n:Nat} {e:TypeId} {v:Value} {xs:List Value} (h:w.ownsRow base' e size v n xs) (hb:base≤base'):w.ownsRow base e size v n xs:=by
 refine⟨h.1,?_⟩;rcases h.2 with h1 | ⟨g,cap,cur,h1,h2,h3⟩
 ·exact .inl h1
 ·exact .inr ⟨g,cap,cur,h1,by omega,h3⟩
theorem or_three (a y:Int) (h0:0≤a) (h1:a≤1099511627776) (h2:0≤y) (h3:y<8):bits .or .u64 (a*8) y=a*8+y:=by
 rw[u64_or _ _ (by omega) (by omega) h2 (by omega)];have:=Nat.two_pow_add_eq_or_of_lt (i:=3) (b:=y.toNat) (by omega) a.toNat;rw[show (a*8).toNat=2 ^ 3*a.toNat by omega,← this];omega
def StPutPost (w:World) (n r:Int) (e:Ending) (w':World):Prop:=
 if may n r then GivesT w (enc (n*8+r)) e w' else e=.returned (.tuple #[.slice none 0 0,.bool false])∧Below w.heap.size w w'
theorem stPut_any (n r:Int) (w:World):Calls Tryz.prog 121 #[st n r] w (StPutPost w n r):=by
 have HC:=Yy (may_any n r);have S0:=Yy (StAt.new w n r);have HB:=Yy ((((Below.refl w.heap.size w).alloc Nl (.cells #[.int .i64 n,.int .i64 r] 33))));cases hm:may n r
 ·have HP:Hid (∀ e w',e=.returned (.tuple #[.slice none 0 0,.bool false])→Below w.heap.size w w'→StPutPost w n r e w'):=Yy (fun e w' h1 h2=>by unfold StPutPost;rw[hm];exact⟨h1,h2⟩);rw[hm]at HC;unfold st at HC ⊢;clear hm;go_enter Tryz.func121,Tryz.ntmps121;go_wp2_with fail;refine (HC.out _).mono ?_;rintro e w1 ⟨rfl,hb1⟩;have bw:=HB.out.trans (hb1.mono HB.out.size);clear hb1;go_wp2
  go_ret2
  exact HP.out _ _ rfl bw
 ·have HP:Hid (∀ e w',GivesT w (enc (n*8+r)) e w'→StPutPost w n r e w'):=Yy (fun e w' h1=>by unfold StPutPost;rw[hm];exact h1);rw[hm]at HC;have hmay:=may_iff.1 hm;have n0:0≤n:=by omega
  have n1:n≤1099511627776:=by omega
  have r0:0≤r:=by omega
  have r1:r<8:=by omega
  have hor:=or_three n r n0 n1 r0 r1;have HPut:=Yy (fun w=>put_gives (n*8+r) w (by omega) (by omega));unfold st at HC ⊢;clear hm hmay;go_enter Tryz.func121,Tryz.ntmps121;go_wp2_with fail;refine (HC.out _).mono ?_;rintro e w1 ⟨rfl,hb1⟩;have s0:=S0.out.below hb1 S0.out.lt;have bw:=HB.out.trans (hb1.mono HB.out.size);have a0:=s0.c0;have a1:=s0.c1;clear s0 hb1;go_wp2_with fail;refine (HPut.out _).mono ?_;rintro e w2 ⟨A,k,c,rfl,hk,hkc,hc,hown,hb2⟩;have HG:=Yy (HP.out _ _ (givesT_own (own_wide hown bw.size) (bw.trans (hb2.mono bw.size))));clear hown hb2 hk hkc hc;go_wp2
  go_ret2
  exact HG.out
end
section
open Go.RowKit WM
def mx (a b:Int×Int):Int×Int:=if stLess a.1 a.2 b.1 b.2 then b else a
theorem stLess_iff {n r m s:Int}:stLess n r m s=true↔(n<m∨n=m∧r<s):=by rw[stLess,decide_eq_true_iff]
theorem mx_is (a b:Int×Int):(stLess a.1 a.2 b.1 b.2=true∧mx a b=b)∨(stLess a.1 a.2 b.1 b.2=false∧mx a b=a):=by
 unfold mx;cases h:stLess a.1 a.2 b.1 b.2
 ·exact .inr ⟨rfl,by simp⟩
 ·exact .inl ⟨rfl,by simp⟩
theorem st_no {n r m s:Int}:stLess n r m s=false↔¬ (n<m∨n=m∧r<s):=by rw[stLess,decide_eq_false_iff_not]
theorem mx_comm (a b:Int×Int):mx b a=mx a b:=by
 rcases mx_is a b with ⟨h1,e1⟩ | ⟨h1,e1⟩<;>rcases mx_is b a with ⟨h2,e2⟩ | ⟨h2,e2⟩<;>rw[e1,e2]<;>simp only[stLess_iff,st_no]at h1 h2
 ·exact Prod.ext (by omega) (by omega)
 ·exact Prod.ext (by omega) (by omega)
theorem mx_self (a:Int×Int):mx a a=a:=by rcases mx_is a a with ⟨_,e⟩ | ⟨_,e⟩<;>exact e
theorem st_ne {n r m s:Int} (h:¬ (n=m∧r=s)) (w:World):(Op.equalIn 10000 33 (.agg #[.int .i64 n,.int .i64 r]) (.agg #[.int .i64 m,.int .i64 s])).run Tryz.prog w=.ok false w:=by
 by_cases h1:n=m
 ·have h2:¬ r=s:=fun e=>h ⟨h1,e⟩;subst h1;go_simp
 ·go_simp
theorem stPut_yes (n r:Int) (w:World) (h:may n r=true):Calls Tryz.prog 121 #[st n r] w (GivesT w (enc (n*8+r))):=by
 have:=stPut_any n r w;unfold StPutPost at this;rw[h]at this;exact this
end
section
open Go.RowKit WM
theorem toList_loop (b:ByteArray):∀ (k i:Nat) (r:List UInt8),b.size - i=k→ByteArray.toList.loop b i r=r.reverse++b.data.toList.drop i
 | 0,i,r,h=>by
  rw[ByteArray.toList.loop,if_neg (by omega),List.drop_eq_nil_of_le (by rw[Array.length_toList];show b.size≤i;omega),List.append_nil]
 | k+1,i,r,h=>by
  have hi:i<b.size:=by omega
  have hi':i<b.data.toList.length:=by rw[Array.length_toList];exact hi
  rw[ByteArray.toList.loop,if_pos hi,toList_loop b k (i+1) _ (by omega),List.drop_eq_getElem_cons hi'];simp[ByteArray.get!,getElem!_pos b.data i hi]
theorem toList_data (b:ByteArray):b.toList=b.data.toList:=by
 rw[ByteArray.toList,toList_loop b _ 0 [] rfl];simp
theorem str_toList (xs:List Int):(strOfNums xs).toList=xs.map fun n=>UInt8.ofNat n.toNat:=by rw[toList_data,strOfNums_data]
def lessL:List Int→List Int→Bool
 | _,[]=>false
 | [],_::_=>true
 | a::x,b::y=>decide (a<b) || (a == b && lessL x y)
theorem str_less:∀ {xs ys:List Int},AllBytes xs→AllBytes ys→Op.bytesLess (strOfNums xs).toList (strOfNums ys).toList=lessL xs ys:=by
 intro xs ys hx hy;rw[str_toList,str_toList]
 induction xs generalizing ys with
 | nil=>cases ys<;>simp[Op.bytesLess,lessL]
 | cons x xs ih=>cases ys with
  | nil=>simp[Op.bytesLess,lessL]
  | cons y ys=>
   have a:=hx x (by simp);have b:=hy y (by simp);rw[List.map_cons,List.map_cons,Op.bytesLess,lessL,ih (fun z hz=>hx z (by simp[hz])) (fun z hz=>hy z (by simp[hz]))];have e1:(UInt8.ofNat x.toNat<UInt8.ofNat y.toNat)↔x<y:=by
    rw[UInt8.lt_iff_toNat_lt,UInt8.toNat_ofNat',UInt8.toNat_ofNat'];omega
   have e2:(UInt8.ofNat x.toNat=UInt8.ofNat y.toNat)↔x=y:=by
    rw[← UInt8.toNat_inj,UInt8.toNat_ofNat',UInt8.toNat_ofNat'];omega
   have e3:(UInt8.ofNat x.toNat == UInt8.ofNat y.toNat)=(x == y):=by
    rw[Bool.eq_iff_iff];simp only[beq_iff_eq];exact e2
   rw[e3,decide_eq_decide.2 e1]
end
section
open Go.RowKit WM
structure Cel where
 n:Int
 r:Int
 s:ByteArray
def Cel.v (c:Cel):Value:=.agg #[.int .i64 c.n,.int .i64 c.r,.string c.s]
def ClAt (w:World) (b:Nat) (c:Cel):Prop:=w.heap[b]?=some (.cells #[.int .i64 c.n,.int .i64 c.r,.string c.s] 38)
theorem ClAt.c0 {w:World} {b:Nat} {c:Cel} (h:ClAt w b c):w.cell? ⟨b,0,none⟩=some (.int .i64 c.n):=by rw[cell_of_row _ _ _ _ _ _ h];rfl
theorem ClAt.c1 {w:World} {b:Nat} {c:Cel} (h:ClAt w b c):w.cell? ⟨b,1,none⟩=some (.int .i64 c.r):=by rw[cell_of_row _ _ _ _ _ _ h];rfl
theorem ClAt.c2 {w:World} {b:Nat} {c:Cel} (h:ClAt w b c):w.cell? ⟨b,2,none⟩=some (.string c.s):=by rw[cell_of_row _ _ _ _ _ _ h];rfl
theorem ClAt.fz {w:World} {b:Nat} {c:Cel} (h:ClAt w b c) (j:Nat):w.frozen? ⟨b,j,none⟩=false:=frozen_of_row _ _ _ _ _ h
theorem ClAt.lt {w:World} {b:Nat} {c:Cel} (h:ClAt w b c):b<w.heap.size:=by
 rcases Nat.lt_or_ge b w.heap.size with h1 | h1
 ·exact h1
 ·unfold ClAt at h;rw[Array.getElem?_eq_none h1]at h;cases h
theorem ClAt.below {w w':World} {b B:Nat} {c:Cel} (h:ClAt w b c) (hb:Below B w w') (hB:b<B):ClAt w' b c:=by
 unfold ClAt;rw[hb.block b hB];exact h
theorem ClAt.new (w:World) (c:Cel):ClAt (w.alloc (.cells #[.int .i64 c.n,.int .i64 c.r,.string c.s] 38)) w.heap.size c:=heap_alloc_new w _
theorem ClAt.old {w:World} {b:Nat} {c:Cel} (h:ClAt w b c) (o:Obj):ClAt (w.alloc o) b c:=h.below ((Below.refl w.heap.size w).alloc Nl o) h.lt
theorem ClAt.put {w:World} {b:Nat} {c:Cel} (h:ClAt w b c) (d:Cel):ClAt (((w.setCell ⟨b,0,none⟩ (.int .i64 d.n)).setCell ⟨b,1,none⟩ (.int .i64 d.r)).setCell ⟨b,2,none⟩ (.string d.s)) b d:=by
 unfold ClAt;rw[heap_setCell_same _ _ _ _ _ _ (heap_setCell_same _ _ _ _ _ _ (heap_setCell_same _ _ _ _ _ _ h))]
 rfl
theorem below_put3 {B:Nat} {a w:World} (h:Below B a w) {b:Nat} (hb:B≤b) (u v x:Value):Below B a (((w.setCell ⟨b,0,none⟩ u).setCell ⟨b,1,none⟩ v).setCell ⟨b,2,none⟩ x):=((h.setCell hb u).setCell hb v).setCell hb x
theorem load_cl {w:World} {b:Nat} {c:Cel} (h:ClAt w b c):(loadVar 38 ⟨b,0,none⟩).run Tryz.prog w=.ok c.v w:=
 run_loadVar_row w b 38 38 _ (0,0) _ h Tryz.underlying38 rfl (by kernel_rfl)
theorem res_cl {fn:Func} {p:Tmp} (h:fn.results=#[.cell p 38]) {tmps:Array Value} {w:World} {b:Nat} {c:Cel} (hp:tmps.getD p undef=.pointer (some ⟨b,0,none⟩)) (hs:ClAt w b c):
  (results fn tmps).run Tryz.prog w=.ok c.v w:=by
 have hp':tmps[p]?.getD undef=.pointer (some ⟨b,0,none⟩):=by simpa using hp
 simp[results,h,hp',asAddr,load_cl hs]
theorem str_beq (s t:ByteArray):(s.toList == t.toList)=true↔s=t:=by
 rw[beq_iff_eq,toList_data,toList_data]
 constructor
 ·intro h;have:=Array.toList_inj.1 h;cases s;cases t;simp_all
 ·rintro rfl;rfl
theorem cl_ne {a b:Cel} (h:¬ a=b) (w:World):(Op.equalIn 10000 38 (.agg #[.int .i64 a.n,.int .i64 a.r,.string a.s]) (.agg #[.int .i64 b.n,.int .i64 b.r,.string b.s])).run Tryz.prog w=.ok false w:=by
 obtain⟨n,r,s⟩:=a;obtain⟨m,q,t⟩:=b;by_cases h1:n=m
 ·subst h1;by_cases h2:r=q
  ·subst h2;have h3:¬ s=t:=fun e=>h (by rw[e]);have h4:(s.toList == t.toList)=false:=by
    cases hh:(s.toList == t.toList)
    ·rfl
    ·exact absurd ((str_beq s t).1 hh) h3
   go_simp
  ·go_simp
 ·go_simp
theorem cl_same (a:Cel) (w:World):(Op.equalIn 10000 38 (.agg #[.int .i64 a.n,.int .i64 a.r,.string a.s]) (.agg #[.int .i64 a.n,.int .i64 a.r,.string a.s])).run Tryz.prog w=.ok true w:=by
 have h4:(a.s.toList == a.s.toList)=true:=(str_beq _ _).2 rfl;go_simp
theorem cl_if {a b:Cel} (h:¬ a=b) {α:Type} (x y:α):(if a.n=b.n then if a.r=b.r then if a.s.toList=b.s.toList then x else y else y else y)=y:=by
 by_cases h1:a.n=b.n
 ·by_cases h2:a.r=b.r
  ·have h3:¬ a.s.toList=b.s.toList:=fun e=>h (by
    have:=(str_beq a.s b.s).1 (by rw[e];exact beq_self_eq_true _);obtain⟨n,r,s⟩:=a;obtain⟨m,q,t⟩:=b;dsimp only at h1 h2 this;rw[h1,h2,this])
   rw[if_pos h1,if_pos h2,if_neg h3]
  ·rw[if_pos h1,if_neg h2]
 ·rw[if_neg h1]
def cmay (c:Cel):Bool:=may c.n c.r && decide (1≤c.n) && decide (c.s.size≤200)
theorem cmay_iff {c:Cel}:cmay c=true↔may c.n c.r=true∧1≤c.n∧c.s.size≤200:=by
 simp[cmay,and_assoc]
theorem Tta47 {p:Prop} (h:p:=by
  rintro e w1 ⟨rfl,hb1⟩;have bw:=Yy (HB.out.trans (hb1.mono HB.out.size));clear hb1;go_wp2;go_ret;exact⟨by rw[HV.out];rfl,bw.out⟩
 ):p:=h
theorem cmay_any (c:Cel) (w:World):Calls Tryz.prog 90 #[c.v] w fun e w'=>e=.returned (.bool (cmay c))∧Below w.heap.size w w':=by
 have HC:=Yy (may_any c.n c.r);have S0:=Yy (ClAt.new w c);have HB:=Yy ((((Below.refl w.heap.size w).alloc Nl (.cells #[.int .i64 c.n,.int .i64 c.r,.string c.s] 38))));unfold Cel.v;cases hm:may c.n c.r
 ·have HV:=Yy (show cmay c=false by simp[cmay,hm]);rw[hm]at HC;unfold st at HC;clear hm;go_enter Tryz.func90,Tryz.ntmps90;go_wp2_with fail;refine (HC.out _).mono ?_;exact Tta47
 ·rw[hm]at HC;have hmay:=may_iff.1 hm;by_cases h0:1≤c.n
  ·have hne:=st_ne (n:=c.n) (r:=c.r) (m:=0) (s:=0) (by omega);have HV:=Yy (show cmay c=decide ((c.s.size:Int)≤200) by simp[cmay,hm,h0];omega);unfold st at HC;clear hm hmay;go_enter Tryz.func90,Tryz.ntmps90;go_wp2_with fail;refine (HC.out _).mono ?_;rintro e w1 ⟨rfl,hb1⟩;have bw:=Yy (HB.out.trans (hb1.mono HB.out.size));have s0:=S0.out.below hb1 S0.out.lt;have a0:=s0.c0;have a1:=s0.c1;have a2:=s0.c2;clear hb1 s0;go_wp2;go_ret;exact⟨by rw[HV.out];rfl,bw.out⟩
  ·have n0:c.n=0:=by omega
   have r0:c.r=0:=by omega
   have HV:=Yy (show cmay c=false by simp[cmay,h0]);rw[n0,r0]at HC S0 HB ⊢;unfold st at HC;clear hm hmay h0;go_enter Tryz.func90,Tryz.ntmps90;go_wp2_with fail;refine (HC.out _).mono ?_;rintro e w1 ⟨rfl,hb1⟩;have bw:=Yy (HB.out.trans (hb1.mono HB.out.size));have s0:=S0.out.below hb1 S0.out.lt;have a0:=s0.c0;have a1:=s0.c1;rw[n0]at a0;rw[r0]at a1;have a2:=s0.c2;clear hb1 s0 n0 r0;go_wp2;go_ret;exact⟨by rw[HV.out];rfl,bw.out⟩
end
end
section
open Go.RowKit WM
def sA:List Int→Int
 | []=>0
 | z::zs=>z+sA zs
def sB:List Int→Int
 | []=>0
 | z::zs=>((zs.length:Int)+1)*z+sB zs
theorem sA_append (xs ys:List Int):sA (xs++ys)=sA xs+sA ys:=by
 induction xs with
 | nil=>simp[sA]
 | cons x xs ih=>simp only[List.cons_append,sA,ih];omega
theorem sB_append (xs ys:List Int):sB (xs++ys)=sB xs+ys.length*sA xs+sB ys:=by
 induction xs with
 | nil=>simp[sA,sB]
 | cons x xs ih=>
  simp only[List.cons_append,sA,sB,ih,List.length_append,Int.natCast_add]
  grind
def rlS (zs:List Int):Int:=65536*(sB zs % 65536)+sA zs % 65536
theorem rlS_range (zs:List Int):0≤rlS zs∧rlS zs≤4294967295:=by unfold rlS;omega
end
end Go.Proofs.YtnlhkpmgbpfjmaaGreatDoor
