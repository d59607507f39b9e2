import Derived.Test.YtnlhkpmgbpfjmaaGreatDoorQe3
import Derived.RangeFuncBox
import Derived.Test.YtnlhkpmgbpfjmaaGreatDoorQe6
import Derived.Maps.OwnSet
import Derived.Maps.Views
import Derived.DeepKeys4
/- What functions answer, part 7. -/
namespace Go.Proofs.YtnlhkpmgbpfjmaaGreatDoor
set_option linter.unusedVariables false
set_option linter.unusedSimpArgs false
set_option maxHeartbeats 16000000
set_option maxRecDepth 100000
section
section
open Go.RowKit WM
section
variable {P:Program} {ops:Array Oper} {Q:Exit→Act→World→Prop} {md:Region.Mode} {S:World→Prop}
def Uni (P:Program) (S:World→Prop) (x:Sem Next) (v:Value):Prop:=
 ∀ w,S w→x.run P w=.ok (.value v) w∨∃ f args,x.run P w=.ok (.enter f args) w∧Calls P f args w fun e w'=>e=.returned v∧S w'
def UniIf (P:Program) (ops:Array Oper) (S:World→Prop) (o:Oper) (v:Value) (a:Act):Prop:=
 (Region.wanted o (yielded ops a.tmps)=true∧Uni P S (execOp a.eval o) v)∨(Region.wanted o (yielded ops a.tmps)=false∧v=undef)
def wpU (P:Program) (md:Region.Mode) (ops:Array Oper) (Q:Exit→Act→World→Prop) (S:World→Prop):Nat→Array Bool→Act→Prop
 | 0,listed,a=>Region.ready md ops listed=[]∧∀ w,S w→Q .normal a w
 | fuel+1,listed,a=>
  (Region.ready md ops listed=[]→∀ w,S w→Q .normal a w) ∧
  ∀ i∈Region.ready md ops listed,∃ o v,ops[i]?=some o∧UniIf P ops S o v a∧wpU P md ops Q S fuel (listed.setIfInBounds i true) (a.put o.dst v)
theorem wpU_done {listed:Array Bool} {a:Act} (hr:Region.ready md ops listed=[]) (h:∀ w,S w→Q .normal a w):∀ fuel,wpU P md ops Q S fuel listed a
 | 0=>⟨hr,h⟩
 | _+1=>⟨fun _=>h,by rw[hr];simp⟩
end
end
section
open Go.RowKit WM
abbrev Blks:=List (Nat×Array Value×TypeId)
def HasBlks (L:Blks) (w:World):Prop:=∀ x∈L,w.heap[x.1]?=some (.cells x.2.1 x.2.2)
theorem HasBlks.lt {L:Blks} {w:World} (h:HasBlks L w) {x:Nat×Array Value×TypeId} (hx:x∈L):x.1<w.heap.size:=by
 rcases Nat.lt_or_ge x.1 w.heap.size with h1 | h1
 ·exact h1
 ·have:=h x hx;rw[Array.getElem?_eq_none h1]at this;cases this
theorem HasBlks.below {L:Blks} {w w':World} (h:HasBlks L w) (hb:Below w.heap.size w w'):HasBlks L w':=fun x hx=>by
 rw[hb.block _ (h.lt hx)];exact h x hx
section
variable {P:Program} {ops:Array Oper} {Q:Exit→Act→World→Prop} {md:Region.Mode} {W0:World}
def UniB (P:Program) (W0:World) (x:Sem Next) (v:Value):Prop:=
 ∀ w,Below W0.heap.size W0 w→x.run P w=.ok (.value v) w∨∃ f args,x.run P w=.ok (.enter f args) w∧Calls P f args w fun e w'=>e=.returned v∧Below w.heap.size w w'
def UniBIf (P:Program) (ops:Array Oper) (W0:World) (o:Oper) (v:Value) (a:Act):Prop:=
 (Region.wanted o (yielded ops a.tmps)=true∧UniB P W0 (execOp a.eval o) v)∨(Region.wanted o (yielded ops a.tmps)=false∧v=undef)
def AllocOp (P:Program) (ops:Array Oper) (W0:World) (o:Oper) (z:Array Value) (t:TypeId) (a:Act):Prop:=
 Region.wanted o (yielded ops a.tmps)=true∧∀ w,Below W0.heap.size W0 w→(execOp a.eval o).run P w=.ok (.value (.pointer (some ⟨w.heap.size,0,none⟩))) (w.alloc (.cells z t))
def StoreOp (P:Program) (ops:Array Oper) (W0:World) (L L':Blks) (o:Oper) (v:Value) (a:Act):Prop:=
 Region.wanted o (yielded ops a.tmps)=true∧∀ w,Below W0.heap.size W0 w→HasBlks L w→∃ w',((execOp a.eval o).run P w=.ok (.value v) w'∨((execOp a.eval o).run P w=.ok .skip w'∧v=undef))∧Below W0.heap.size W0 w'∧HasBlks L' w'
def Same (P:Program) (ops:Array Oper) (o:Oper) (a a':Act):Prop:=execOp a'.eval o=execOp a.eval o∧Region.wanted o (yielded ops a'.tmps)=Region.wanted o (yielded ops a.tmps)
theorem UniBIf.of_same {o:Oper} {v:Value} {a a':Act} (hy:UniBIf P ops W0 o v a) (h:Same P ops o a a'):UniBIf P ops W0 o v a':=by
 unfold UniBIf at *;rw[h.1,h.2];exact hy
theorem AllocOp.of_same {o:Oper} {z:Array Value} {t:TypeId} {a a':Act} (hy:AllocOp P ops W0 o z t a) (h:Same P ops o a a'):AllocOp P ops W0 o z t a':=by
 unfold AllocOp at *;rw[h.1,h.2];exact hy
theorem StoreOp.of_same {o:Oper} {L L':Blks} {v:Value} {a a':Act} (hy:StoreOp P ops W0 L L' o v a) (h:Same P ops o a a'):StoreOp P ops W0 L L' o v a':=by
 unfold StoreOp at *;rw[h.1,h.2];exact hy
def wpG (P:Program) (md:Region.Mode) (ops:Array Oper) (Q:Exit→Act→World→Prop) (W0:World):Nat→Blks→Array Bool→Act→Prop
 | 0,L,listed,a=>Region.ready md ops listed=[]∧∀ w,Below W0.heap.size W0 w→HasBlks L w→Q .normal a w
 | fuel+1,L,listed,a=>
  (Region.ready md ops listed=[]→∀ w,Below W0.heap.size W0 w→HasBlks L w→Q .normal a w) ∧
  ∀ i∈Region.ready md ops listed,∃ o,ops[i]?=some o ∧
   ((∃ v,UniBIf P ops W0 o v a∧wpG P md ops Q W0 fuel L (listed.setIfInBounds i true) (a.put o.dst v)) ∨
    (∃ z t,AllocOp P ops W0 o z t a∧∀ g,W0.heap.size≤g→(∀ x∈L,x.1≠g)→wpG P md ops Q W0 fuel ((g,z,t)::L) (listed.setIfInBounds i true) (a.put o.dst (.pointer (some ⟨g,0,none⟩)))) ∨
    (∃ L' v,StoreOp P ops W0 L L' o v a∧wpG P md ops Q W0 fuel L' (listed.setIfInBounds i true) (a.put o.dst v)))
theorem wpAny_of_G:∀ (fuel:Nat) (L:Blks) (listed:Array Bool) (a:Act),wpG P md ops Q W0 fuel L listed a→∀ w,Below W0.heap.size W0 w→HasBlks L w→wpAny P md ops Q fuel listed a w
 | 0,_,_,_,h,w,hS,hL=>⟨h.1,h.2 w hS hL⟩
 | fuel+1,L,_,a,h,w,hS,hL=>⟨fun h0=>h.1 h0 w hS hL,fun i hi=>by
   obtain⟨o,ho,h1⟩:=h.2 i hi;unfold Go.wpOp;simp only[ho];rcases h1 with ⟨v,hu,hr⟩ | ⟨z,t,hu,hr⟩ | ⟨L',v,hu,hr⟩
   ·rcases hu with ⟨hw,hv⟩ | ⟨hw,rfl⟩
    ·simp only[hw,if_true,Oper.wp];refine .inl ?_;rcases hv w hS with h1 | ⟨f,args,h1,h2⟩
     ·rw[h1];exact wpAny_of_G fuel L _ _ hr w hS hL
     ·rw[h1,Oper.upon_enter];refine h2.mono ?_;rintro e w' ⟨rfl,hb⟩;exact wpAny_of_G fuel L _ _ hr w' (hS.trans (hb.mono hS.size)) (hL.below hb)
    ·simp only[hw,Bool.false_eq_true,if_false];exact wpAny_of_G fuel L _ _ hr w hS hL
   ·simp only[hu.1,if_true,Oper.wp];refine .inl ?_;rw[hu.2 w hS];have hb:=(Below.refl w.heap.size w).alloc Nl (.cells z t);refine wpAny_of_G fuel _ _ _ (hr w.heap.size hS.size (fun x hx=>Nat.ne_of_lt (hL.lt hx))) _ (hS.trans (hb.mono hS.size)) ?_;intro x hx;rcases List.mem_cons.1 hx with rfl | hx
    ·exact heap_alloc_new w _
    ·exact hL.below hb x hx
   ·simp only[hu.1,if_true,Oper.wp];refine .inl ?_;obtain⟨w',h1,h2,h3⟩:=hu.2 w hS hL;rcases h1 with h1 | ⟨h1,rfl⟩
    ·rw[h1];exact wpAny_of_G fuel L' _ _ hr w' h2 h3
    ·rw[h1];exact wpAny_of_G fuel L' _ _ hr w' h2 h3⟩
theorem wpG_first {i:Nat} {oi:Oper} {v:Value} (hi:ops[i]?=some oi) (hsel:∀ (j:Nat) (o:Oper) cs b,ops[j]?=some o→o.op≠.select cs b):
  ∀ (fuel:Nat) (L:Blks) (listed:Array Bool) (a:Act),
   (∀ j oj,ops[j]?=some oj→j≠i→listed.getD j true=false→(∀ e∈oj.after,Region.binds md e=true→e.on≠i)→oi.apart ops oj=true) →
   i∈Region.ready md ops listed→UniBIf P ops W0 oi v a →
   wpG P md ops Q W0 fuel L (listed.setIfInBounds i true) (a.put oi.dst v)→wpG P md ops Q W0 (fuel+1) L listed a:=by
 intro fuel
 induction fuel with
 | zero=>
  intro L listed a _ hr hy H;refine⟨fun h=>(by rw[h]at hr;cases hr),fun j hj=>?_⟩;by_cases hji:j=i
  ·subst hji;exact⟨oi,hi,.inl ⟨v,hy,H⟩⟩
  ·have:=ready_mono hj hji;rw[H.1]at this;cases this
 | succ fuel ih=>
  intro L listed a hfree hr hy H;refine⟨fun h=>(by rw[h]at hr;cases hr),fun j hj=>?_⟩;by_cases hji:j=i
  ·subst hji;exact⟨oi,hi,.inl ⟨v,hy,H⟩⟩
  ·obtain⟨oj,hoj,hr1⟩:=H.2 j (ready_mono hj hji);obtain⟨hjun,oj',hoj',hall⟩:=mem_ready.1 hj;obtain rfl:oj=oj':=by rw[hoj]at hoj';exact Option.some.inj hoj'
   have hnot:∀ e∈oj.after,Region.binds md e=true→e.on≠i:=fun e he hb heq=>by
    have h1:=hall e he hb;have h0:=(mem_ready.1 hr).1;rw[heq]at h1;rcases Nat.lt_or_ge i listed.size with h' | h'
    ·simp[h']at h0 h1;rw[h0]at h1;cases h1
    ·simp[Array.getElem?_eq_none h']at h1
   obtain⟨h1,h2,h3⟩:=Oper.apart_spec (hfree j oj hoj hji hjun hnot);have hfree':∀ k ok,ops[k]?=some ok→k≠i→(listed.setIfInBounds j true).getD k true=false →
     (∀ e∈ok.after,Region.binds md e=true→e.on≠i)→oi.apart ops ok=true:=fun k ok hk hki hun hno=>by
    refine hfree k ok hk hki ?_ hno;by_cases hjk:j=k
    ·subst hjk;exact hjun
    ·rw[getD_set_ne true hjk]at hun;exact hun
   have hsame:Same P ops oj (a.put oi.dst v) a:=⟨(execOp_put oj (fun cs b=>hsel j oj cs b hoj) a oi.dst v h1).symm,(wanted_put oj a oi.dst v h1).symm⟩;have hsi:∀ u,UniBIf P ops W0 oi v (a.put oj.dst u):=fun u=>hy.of_same ⟨execOp_put oi (fun cs b=>hsel i oi cs b hi) a oj.dst u h3,wanted_put oi a oj.dst u h3⟩;have hgo:∀ (L':Blks) (u:Value),wpG P md ops Q W0 fuel L' ((listed.setIfInBounds i true).setIfInBounds j true) ((a.put oi.dst v).put oj.dst u)→wpG P md ops Q W0 (fuel+1) L' (listed.setIfInBounds j true) (a.put oj.dst u):=fun L' u h=>by
    refine ih L' (listed.setIfInBounds j true) _ hfree' (ready_mono hr (Ne.symm hji)) (hsi u) ?_;rw[Array.setIfInBounds_comm _ _ hji,← Act.put_comm a v u h2];exact h
   refine⟨oj,hoj,?_⟩;rcases hr1 with ⟨u,hu,hr⟩ | ⟨z,t,hu,hr⟩ | ⟨L',u,hu,hr⟩
   ·exact .inl ⟨u,hu.of_same hsame,hgo L u hr⟩
   ·exact .inr (.inl ⟨z,t,hu.of_same hsame,fun g hg hn=>hgo _ _ (hr g hg hn)⟩)
   ·exact .inr (.inr ⟨L',u,hu.of_same hsame,hgo L' u hr⟩)
theorem wpG_take {i:Nat} {oi:Oper} {v:Value} {fuel:Nat} {L:Blks} {listed:Array Bool} {a:Act} (hi:ops[i]?=some oi)
  (hs:Region.noSelect ops=true) (hf:Region.free md ops listed i=true) (hr:(Region.ready md ops listed).contains i=true)
  (hy:UniBIf P ops W0 oi v a) (h:wpG P md ops Q W0 fuel L (listed.setIfInBounds i true) (a.put oi.dst v)):wpG P md ops Q W0 (fuel+1) L listed a:=
 wpG_first hi (Region.noSelect_spec hs) fuel L listed a (Region.free_spec hi hf) (by simpa using hr) hy h
theorem wpG_alloc {i:Nat} {oi:Oper} {z:Array Value} {t:TypeId} {fuel:Nat} {L:Blks} {listed:Array Bool} {a:Act} (hr:Region.ready md ops listed=[i]) (hi:ops[i]?=some oi)
  (hy:AllocOp P ops W0 oi z t a) (h:∀ g,W0.heap.size≤g→(∀ x∈L,x.1≠g)→wpG P md ops Q W0 fuel ((g,z,t)::L) (listed.setIfInBounds i true) (a.put oi.dst (.pointer (some ⟨g,0,none⟩)))):wpG P md ops Q W0 (fuel+1) L listed a:=
 ⟨fun h0=>(by rw[hr]at h0;cases h0),fun j hj=>by rw[hr]at hj;obtain rfl:=List.mem_singleton.1 hj;exact⟨oi,hi,.inr (.inl ⟨z,t,hy,h⟩)⟩⟩
theorem wpG_store {i:Nat} {oi:Oper} {v:Value} {fuel:Nat} {L:Blks} (L':Blks) {listed:Array Bool} {a:Act} (hr:Region.ready md ops listed=[i]) (hi:ops[i]?=some oi)
  (hy:StoreOp P ops W0 L L' oi v a) (h:wpG P md ops Q W0 fuel L' (listed.setIfInBounds i true) (a.put oi.dst v)):wpG P md ops Q W0 (fuel+1) L listed a:=
 ⟨fun h0=>(by rw[hr]at h0;cases h0),fun j hj=>by rw[hr]at hj;obtain rfl:=List.mem_singleton.1 hj;exact⟨oi,hi,.inr (.inr ⟨L',v,hy,h⟩)⟩⟩
theorem wpG_done {L:Blks} {listed:Array Bool} {a:Act} (hr:Region.ready md ops listed=[]) (h:∀ w,Below W0.heap.size W0 w→HasBlks L w→Q .normal a w):∀ fuel,wpG P md ops Q W0 fuel L listed a
 | 0=>⟨hr,h⟩
 | _+1=>⟨fun _=>h,by rw[hr];simp⟩
theorem wp_region_G (W0:World) {id:Nat} {a:Act} (hm:P.follows .mixedOrders=true)
  (h:wpG P .any ops Q W0 ops.size [] (Array.replicate ops.size false) a):(Code.region id ops true).wp P Q a W0:=
 wp_region_any hm (wpAny_of_G _ _ _ _ h _ ((Below.refl _ _).drew) (fun x hx=>by cases hx))
theorem unib_val {x:Sem Next} {v:Value} (h:∀ w,Below W0.heap.size W0 w→x.run P w=.ok (.value v) w):UniB P W0 x v:=fun w hS=>.inl (h w hS)
theorem unib_call {x:Sem Next} {v:Value} {f:FuncId} {args:Array Value} (h:∀ w,Below W0.heap.size W0 w→x.run P w=.ok (.enter f args) w) (hc:∀ w,Calls P f args w fun e w'=>e=.returned v∧Below w.heap.size w w'):UniB P W0 x v:=
 fun w hS=>.inr ⟨f,args,h w hS,hc w⟩
theorem unib_call_if {x:Sem Next} {v:Value} {f:FuncId} {args:Array Value} (h:∀ w,Below W0.heap.size W0 w→x.run P w=.ok (.enter f args) w) (hc:∀ w,Below W0.heap.size W0 w→Calls P f args w fun e w'=>e=.returned v∧Below w.heap.size w w'):UniB P W0 x v:=
 fun w hS=>.inr ⟨f,args,h w hS,hc w hS⟩
end
end
end
section
open Go.RowKit WM
variable {P:Program} {ops:Array Oper} {Q:Exit→Act→World→Prop} {md:Region.Mode} {W0:World}
theorem wpGv {i:Nat} {oi:Oper} {v:Value} {fuel:Nat} {L:Blks} {listed:Array Bool} {a:Act} (hi:ops[i]?=some oi) (hx:∀ w,Below W0.heap.size W0 w→(execOp a.eval oi).run P w=.ok (.value v) w)
    (h:wpG P md ops Q W0 fuel L (listed.setIfInBounds i true) (a.put oi.dst v)) (hw:Region.wanted oi (yielded ops a.tmps)=true:=by rfl) (hs:Region.noSelect ops=true:=by kernel_rfl) (hf:Region.free md ops listed i=true:=by kernel_rfl) (hr:(Region.ready md ops listed).contains i=true:=by kernel_rfl):wpG P md ops Q W0 (fuel+1) L listed a:=
  wpG_take hi hs hf hr (Or.inl ⟨hw,unib_val hx⟩) h
theorem wpGo {i:Nat} {oi:Oper} {fuel:Nat} {L:Blks} {listed:Array Bool} {a:Act} (hi:ops[i]?=some oi) (h:wpG P md ops Q W0 fuel L (listed.setIfInBounds i true) (a.put oi.dst undef)) (hw:Region.wanted oi (yielded ops a.tmps)=false:=by rfl)
    (hs:Region.noSelect ops=true:=by kernel_rfl) (hf:Region.free md ops listed i=true:=by kernel_rfl) (hr:(Region.ready md ops listed).contains i=true:=by kernel_rfl):wpG P md ops Q W0 (fuel+1) L listed a:=
  wpG_take hi hs hf hr (Or.inr ⟨hw,rfl⟩) h
end
section
open Go.RowKit WM
variable {P:Program} {ops:Array Oper} {Q:Exit→Act→World→Prop} {md:Region.Mode} {W0:World} {fuel:Nat} {L:Blks} {l:Array Bool} {a a':Act} {op:Op} {tt:TypeId} {pos:String} {af:Array Edge} {gd:Option (Nat×Bool)}
theorem YGd (i:Nat) (d:Option Tmp) (v:Value) (hi:ops[i]?=some ⟨d,op,tt,pos,af,gd⟩) (hx:∀ w,Below W0.heap.size W0 w→(execOp a.eval ⟨d,op,tt,pos,af,gd⟩).run P w=.ok (.value v) w) (h:wpG P md ops Q W0 fuel L (l.setIfInBounds i true) a')
    (ha:a.put d v=a':=by simp only[Act.put,Z2,Z3,Z4];rfl) (hw:Region.wanted ⟨d,op,tt,pos,af,gd⟩ (yielded ops a.tmps)=true:=by rfl) (hs:Region.noSelect ops=true:=by kernel_rfl) (hf:Region.free md ops l i=true:=by kernel_rfl) (hr:(Region.ready md ops l).contains i=true:=by kernel_rfl):wpG P md ops Q W0 (fuel+1) L l a:=
  wpG_take hi hs hf hr (Or.inl ⟨hw,unib_val hx⟩) (by rw[ha];exact h)
theorem YGa (i:Nat) (d:Option Tmp) {v:Value} (hi:ops[i]?=some ⟨d,op,tt,pos,af,gd⟩) (h:wpG P md ops Q W0 fuel L (l.setIfInBounds i true) a') (hx:∀ w,Below W0.heap.size W0 w→(execOp a.eval ⟨d,op,tt,pos,af,gd⟩).run P w=.ok (.value v) w:=by intro w9 hSw;go_simp;try with_reducible rfl)
    (ha:a.put d v=a':=by simp only[Act.put,Z2,Z3,Z4];rfl) (hw:Region.wanted ⟨d,op,tt,pos,af,gd⟩ (yielded ops a.tmps)=true:=by rfl) (hs:Region.noSelect ops=true:=by kernel_rfl) (hf:Region.free md ops l i=true:=by kernel_rfl) (hr:(Region.ready md ops l).contains i=true:=by kernel_rfl):wpG P md ops Q W0 (fuel+1) L l a:=
  YGd i d v hi hx h ha hw hs hf hr
theorem YGb (i:Nat) (d:Option Tmp) {v:Value} {p:World→Prop} (hi:ops[i]?=some ⟨d,op,tt,pos,af,gd⟩) (q:∀ w,Below W0.heap.size W0 w→p w) (h:wpG P md ops Q W0 fuel L (l.setIfInBounds i true) a') (hx:∀ w,Below W0.heap.size W0 w→p w→(execOp a.eval ⟨d,op,tt,pos,af,gd⟩).run P w=.ok (.value v) w:=by intro w9 hSw q0;go_simp;try with_reducible rfl)
    (ha:a.put d v=a':=by simp only[Act.put,Z2,Z3,Z4];rfl) (hw:Region.wanted ⟨d,op,tt,pos,af,gd⟩ (yielded ops a.tmps)=true:=by rfl) (hs:Region.noSelect ops=true:=by kernel_rfl) (hf:Region.free md ops l i=true:=by kernel_rfl) (hr:(Region.ready md ops l).contains i=true:=by kernel_rfl):wpG P md ops Q W0 (fuel+1) L l a:=
  YGd i d v hi (fun w hw=>hx w hw (q w hw)) h ha hw hs hf hr
theorem YGc (i:Nat) (d:Option Tmp) {v:Value} {p p':World→Prop} (hi:ops[i]?=some ⟨d,op,tt,pos,af,gd⟩) (q:∀ w,Below W0.heap.size W0 w→p w) (q':∀ w,Below W0.heap.size W0 w→p' w) (h:wpG P md ops Q W0 fuel L (l.setIfInBounds i true) a') (hx:∀ w,Below W0.heap.size W0 w→p w→p' w→(execOp a.eval ⟨d,op,tt,pos,af,gd⟩).run P w=.ok (.value v) w:=by intro w9 hSw q0 q1;go_simp;try with_reducible rfl)
    (ha:a.put d v=a':=by simp only[Act.put,Z2,Z3,Z4];rfl) (hw:Region.wanted ⟨d,op,tt,pos,af,gd⟩ (yielded ops a.tmps)=true:=by rfl) (hs:Region.noSelect ops=true:=by kernel_rfl) (hf:Region.free md ops l i=true:=by kernel_rfl) (hr:(Region.ready md ops l).contains i=true:=by kernel_rfl):wpG P md ops Q W0 (fuel+1) L l a:=
  YGd i d v hi (fun w hw=>hx w hw (q w hw) (q' w hw)) h ha hw hs hf hr
theorem YGo (i:Nat) (d:Option Tmp) (hi:ops[i]?=some ⟨d,op,tt,pos,af,gd⟩) (h:wpG P md ops Q W0 fuel L (l.setIfInBounds i true) a')
    (ha:a.put d undef=a':=by simp only[Act.put,Z2,Z3,Z4];rfl) (hw:Region.wanted ⟨d,op,tt,pos,af,gd⟩ (yielded ops a.tmps)=false:=by rfl) (hs:Region.noSelect ops=true:=by kernel_rfl) (hf:Region.free md ops l i=true:=by kernel_rfl) (hr:(Region.ready md ops l).contains i=true:=by kernel_rfl):wpG P md ops Q W0 (fuel+1) L l a:=
  wpG_take hi hs hf hr (Or.inr ⟨hw,rfl⟩) (by rw[ha];exact h)
theorem YGk (i:Nat) (d:Option Tmp) {v:Value} {f:FuncId} {args:Array Value} (hi:ops[i]?=some ⟨d,op,tt,pos,af,gd⟩) (hc:∀ w,Calls P f args w fun e w'=>e=.returned v∧Below w.heap.size w w') (h:wpG P md ops Q W0 fuel L (l.setIfInBounds i true) a') (hx:∀ w,Below W0.heap.size W0 w→(execOp a.eval ⟨d,op,tt,pos,af,gd⟩).run P w=.ok (.enter f args) w:=by intro w9 hSw;go_simp;try with_reducible rfl)
    (ha:a.put d v=a':=by simp only[Act.put,Z2,Z3,Z4];rfl) (hw:Region.wanted ⟨d,op,tt,pos,af,gd⟩ (yielded ops a.tmps)=true:=by rfl) (hs:Region.noSelect ops=true:=by kernel_rfl) (hf:Region.free md ops l i=true:=by kernel_rfl) (hr:(Region.ready md ops l).contains i=true:=by kernel_rfl):wpG P md ops Q W0 (fuel+1) L l a:=
  wpG_take hi hs hf hr (Or.inl ⟨hw,unib_call hx hc⟩) (by rw[ha];exact h)
theorem YGj (i:Nat) (d:Option Tmp) {v:Value} {f:FuncId} {args:Array Value} (hi:ops[i]?=some ⟨d,op,tt,pos,af,gd⟩) (hc:∀ w,Below W0.heap.size W0 w→Calls P f args w fun e w'=>e=.returned v∧Below w.heap.size w w') (h:wpG P md ops Q W0 fuel L (l.setIfInBounds i true) a') (hx:∀ w,Below W0.heap.size W0 w→(execOp a.eval ⟨d,op,tt,pos,af,gd⟩).run P w=.ok (.enter f args) w:=by intro w9 hSw;go_simp;try with_reducible rfl)
    (ha:a.put d v=a':=by simp only[Act.put,Z2,Z3,Z4];rfl) (hw:Region.wanted ⟨d,op,tt,pos,af,gd⟩ (yielded ops a.tmps)=true:=by rfl) (hs:Region.noSelect ops=true:=by kernel_rfl) (hf:Region.free md ops l i=true:=by kernel_rfl) (hr:(Region.ready md ops l).contains i=true:=by kernel_rfl):wpG P md ops Q W0 (fuel+1) L l a:=
  wpG_take hi hs hf hr (Or.inl ⟨hw,unib_call_if hx hc⟩) (by rw[ha];exact h)
end
section
section
open Go.RowKit WM
theorem ix_strR (s:ByteArray) (k:Nat) (hk:k<(nums s).length) (K:Int) (e:K=k) (w:World):(Instr.index 9 (.string s) (.int .i64 K)).run Tryz.prog w=.ok (.int .u8 ((nums s).getD k 0)) w:=by
 subst e;have hs:k<s.size:=by rw[nums_len]at hk;exact hk
 have hd:k<s.data.toList.length:=by rw[Array.length_toList];exact hs
 rw[run_index_string (P:=Tryz.prog) w 9 s .i64 k Tryz.underlying9];simp[nums,List.getD,hs]
 rfl
theorem byte_at (s:ByteArray) (k:Nat):0≤(nums s).getD k 0∧(nums s).getD k 0≤255:=by
 rw[List.getD_eq_getElem?_getD];rcases Nat.lt_or_ge k (nums s).length with h | h
 ·rw[List.getElem?_eq_getElem h];exact nums_bytes s _ (List.getElem_mem h)
 ·rw[List.getElem?_eq_none h];simp
end
section
open Go.RowKit WM
theorem nums_extract (s:ByteArray) (i j:Nat):nums (s.extract i j)=((nums s).drop i).take (j - i):=by
 unfold nums;rw[ByteArray.data_extract,Array.toList_extract];simp[List.extract,List.map_drop,List.map_take]
theorem extract_size (s:ByteArray) (i j:Nat) (hj:j≤s.size):(s.extract i j).size=j - i:=by rw[ByteArray.size_extract];omega
end
section
open Go.RowKit WM
end
section
open Go.RowKit WM
theorem shl16 (b:Nat):Op.shift BinOp.shl .u32 (b:Int) .u64 16=pure (.int .u32 ((b*65536 % 4294967296:Nat):Int)):=by
 rw[shift_shl_any _ _ _ _ (by omega),IntKind.wrap_u32',show IntKind.u32.bits=32 from rfl]
 congr 2
theorem mask16 (a:Nat) (h:a<4294967296):bits .and .u32 (a:Int) 65535=((a % 65536:Nat):Int):=by
 rw[show (65535:Int)=((65535:Nat):Int) from rfl,u32_and_nat _ _ h (by omega)]
 congr 1
 exact Nat.and_two_pow_sub_one_eq_mod a 16
theorem both16 (a b:Nat):bits .or .u32 ((b*65536 % 4294967296:Nat):Int) ((a % 65536:Nat):Int)=((65536*(b % 65536)+a % 65536:Nat):Int):=by
 rw[u32_or_nat _ _ (Nat.mod_lt _ (by omega)) (by omega)]
 congr 1
 have e:b*65536 % 4294967296=(b % 65536) <<< 16:=by rw[Nat.shiftLeft_eq];omega
 rw[e,← Nat.shiftLeft_add_eq_or_of_lt (by omega:a % 65536<2 ^ 16),Nat.shiftLeft_eq];omega
theorem rlchk_any (a b:Nat) (w:World) (ha:a<4294967296):Calls Tryz.prog 137 #[.int .u32 a,.int .u32 b] w fun e w'=>e=.returned (.int .u32 ((65536*(b % 65536)+a % 65536:Nat):Int))∧Below w.heap.size w w':=by
 have HB:=Yy (Below.refl w.heap.size w);have h1:=shl16 b;have h2:=mask16 a ha;have h3:=both16 a b;generalize ((65536*(b % 65536)+a % 65536:Nat):Int)=r at *;generalize ((b*65536 % 4294967296:Nat):Int)=p at *;generalize ((a % 65536:Nat):Int)=q at *;clear ha;go_enter Tryz.func137,Tryz.ntmps137;go_wp2;go_ret;exact⟨rfl,HB.out⟩
theorem take_sA {zs:List Int} {k:Nat} (h:k<zs.length):sA (zs.take (k+1))=sA (zs.take k)+zs.getD k 0:=by
 rw[List.take_succ_eq_append_getElem h,sA_append,List.getD_eq_getElem?_getD,List.getElem?_eq_getElem h];simp[sA]
theorem take_sB {zs:List Int} {k:Nat} (h:k<zs.length):sB (zs.take (k+1))=sB (zs.take k)+sA (zs.take (k+1)):=by
 rw[take_sA h,List.take_succ_eq_append_getElem h,sB_append,List.getD_eq_getElem?_getD,List.getElem?_eq_getElem h];simp[sB];omega
theorem u32_nat (x:Int):∃ n:Nat,n<4294967296∧IntKind.u32.wrap x=(n:Int)∧(n:Int)=x % 4294967296:=⟨(x % 4294967296).toNat,by omega,by rw[IntKind.wrap_u32'];omega,by omega⟩
theorem rlsum_any (s:ByteArray) (w:World) (hs:s.size≤1000000):Calls Tryz.prog 124 #[.string s] w fun e w'=>e=.returned (.int .u32 (rlS (nums s)))∧Below w.heap.size w w':=by
 have HB:=Yy (Below.refl w.heap.size w);obtain⟨n,hn⟩:∃ n,n=s.size:=⟨_,rfl⟩;have HN:=Yy (show (nums s).length=n by rw[nums_len,hn]);have hlen:s.size=n:=hn.symm;clear hn;go_enter Tryz.func124,Tryz.ntmps124;go_wp2;go_loopw [3,4,8] (fun a b i wr=>∃ (k A B:Nat),k≤n∧i=.int .i64 k∧a=.int .u32 A∧b=.int .u32 B∧A<4294967296∧B<4294967296∧(A:Int)=(sA ((nums s).take k)) % 4294967296∧(B:Int)=(sB ((nums s).take k)) % 4294967296∧Below w.heap.size w wr) (fun _ _ i _=>n - (intOf i).toNat)
 case atStart=>exact⟨0,0,0,Nat.zero_le _,rfl,rfl,rfl,by omega,by omega,by simp[sA],by simp[sB],HB.out⟩
 case round=>
  obtain⟨k,A,B,hk,rfl,rfl,rfl,hA0,hB0,hA,hB,hb⟩:=hrel;have HBB:=Yy hb;by_cases hlt:k<n
  ·have hkl:k<(nums s).length:=by rw[HN.out];exact hlt
   have t1:(k:Int)<(n:Int):=by omega
   have hix:=ix_strR s k hkl k rfl;have dA:=take_sA hkl;have dB:=take_sB hkl;have hz:=byte_at s k
   generalize (nums s).getD k 0=z at *;have f1:IntKind.u32.wrap z=z:=IntWalk.u32_in _ (by omega);obtain⟨A',hA1,f2,hA2⟩:=u32_nat ((A:Int)+z);obtain⟨B',hB1,f3,hB2⟩:=u32_nat ((B:Int)+(A':Int));have HF:Hid ((A':Int)=(sA ((nums s).take (k+1))) % 4294967296∧(B':Int)=(sB ((nums s).take (k+1))) % 4294967296):=Yy ⟨by omega,by omega⟩;clear hA hB dA dB hA2 hB2 hb hkl;go_wp2;go_roundw
   case rel=>exact⟨k+1,A',B',by omega,by go_num,rfl,rfl,hA1,hB1,HF.out.1,HF.out.2,HBB.out⟩
   case measure=>simp[intOf];omega
  ·obtain rfl:k=n:=by omega
   have t1:¬ (k:Int)<(k:Int):=by omega
   have hd:(nums s).take k=nums s:=List.take_of_length_le (by rw[HN.out];exact Nat.le_refl _);rw[hd]at hA hB;have HV:Hid (rlS (nums s)=((65536*(B % 65536)+A % 65536:Nat):Int)):=Yy (by unfold rlS;omega);have HC:=Yy (fun w=>rlchk_any A B w hA0);generalize ((65536*(B % 65536)+A % 65536:Nat):Int)=R at HV HC;clear hA hB hd hb;go_wp2_with fail;refine (HC.out _).mono ?_;rintro e w1 ⟨rfl,hb⟩;have B1:=Yy (HBB.out.trans (hb.mono HBB.out.size));clear hb;go_wp2;go_ret;exact⟨by rw[HV.out];rfl,B1.out⟩
end
end
section
open Go.RowKit WM
def Sg.cs (x:Sg):List Value:=.int .u32 x.wk::x.ds.map (Value.int .u8)
theorem Sg.cs_len {x:Sg} (h:x.Ok):x.cs.length=33:=by simp[Sg.cs,h.2.2.1]
theorem Sg.cs_one (x:Sg) (u:Value) (hu:u∈x.cs):u.oneCell'=true:=by
 rcases List.mem_cons.1 hu with rfl | hu
 ·rfl
 ·obtain⟨z,_,rfl⟩:=List.mem_map.1 hu
  rfl
def KSig:Kind Sg:={ n:=33,pos:=by decide,cs:=Sg.cs,d:=sg0,ok:=fun _ x=>x.Ok,len:=fun h=>Sg.cs_len h,one:=Sg.cs_one,below:=fun h _=>h}
theorem sizeSig (w:World):(sizeOf 122).run Tryz.prog w=.ok 33 w:=by
 simp[sizeOf,go_sem]
 rfl
theorem infoSig:(Tryz.prog.info? 122).map (fun i=>(i.zero,i.size,i.bytes))=some (some (KSig.v ⟨0,List.replicate 32 0⟩),33,36):=by kernel_rfl
theorem zeroSig (w:World):(zeroValue 122).run Tryz.prog w=.ok (KSig.v ⟨0,List.replicate 32 0⟩) w:=by
 obtain⟨i,hi,hz,hs,hb⟩:=info_parts infoSig;simp[zeroValue,typeInfo,hi,hz,Sem.run_bind]
theorem list32 {z:List Int} (h:z.length=32):∃ a0 a1 a2 a3 a4 a5 a6 a7 a8 a9 a10 a11 a12 a13 a14 a15 a16 a17 a18 a19 a20 a21 a22 a23 a24 a25 a26 a27 a28 a29 a30 a31,z=[a0,a1,a2,a3,a4,a5,a6,a7,a8,a9,a10,a11,a12,a13,a14,a15,a16,a17,a18,a19,a20,a21,a22,a23,a24,a25,a26,a27,a28,a29,a30,a31]:=by
 match z,h with
 | [a0,a1,a2,a3,a4,a5,a6,a7,a8,a9,a10,a11,a12,a13,a14,a15,a16,a17,a18,a19,a20,a21,a22,a23,a24,a25,a26,a27,a28,a29,a30,a31],_=>exact⟨a0,a1,a2,a3,a4,a5,a6,a7,a8,a9,a10,a11,a12,a13,a14,a15,a16,a17,a18,a19,a20,a21,a22,a23,a24,a25,a26,a27,a28,a29,a30,a31,rfl⟩
theorem Tta35 {p:Prop} (h:p:=by
  obtain⟨a0,a1,a2,a3,a4,a5,a6,a7,a8,a9,a10,a11,a12,a13,a14,a15,a16,a17,a18,a19,a20,a21,a22,a23,a24,a25,a26,a27,a28,a29,a30,a31,rfl⟩:=list32 h
  kernel_rfl
 ):p:=h
theorem built_list {z:List Int} (h:z.length=32) (n:Int):Tryz.prog.built 122 [(0,.int .u32 n),(1,.agg (bvals z))]=some (KSig.cs ⟨n,z⟩).toArray:=by
 exact Tta35
theorem build_sig {x:Sg} (h:x.ds.length=32) (w:World):(Instr.build 122 #[(0,.int .u32 x.wk),(1,.agg (bvals x.ds))]).run Tryz.prog w=.ok (KSig.v x) w:=run_build w _ _ _ (built_list h x.wk)
theorem sizeSigK (w:World):(sizeOf 122).run Tryz.prog w=.ok KSig.n w:=sizeSig w
theorem nSig:KSig.n≤1000:=by decide
def sgz:Sg:=⟨0,List.replicate 32 0⟩
theorem sgz_ok:sgz.Ok:=by unfold sgz Sg.Ok AllBytes;decide
theorem sig_size {x:Sg} (h:x.Ok):(Tryz.prog.info? 122).map (·.size)=some (KSig.cs x).toArray.size:=by
 obtain⟨i,hi,_,hs,_⟩:=info_parts infoSig;rw[hi,List.size_toArray,show (KSig.cs x).length=33 from Sg.cs_len h,← hs]
 rfl
theorem sig_same {x y:Sg} (hx:x.Ok) (hy:y.Ok):(KSig.cs x).toArray.size=(KSig.cs y).toArray.size:=by
 rw[List.size_toArray,List.size_toArray,show (KSig.cs x).length=33 from Sg.cs_len hx,show (KSig.cs y).length=33 from Sg.cs_len hy]
theorem sig_ones (x:Sg):(KSig.cs x).toArray.all (·.oneCell')=true:=by
 rw[Array.all_eq_true_iff_forall_mem];intro u hu;exact KSig.one x u (by simpa using hu)
theorem byte_ones (x:List Int) (u:Value) (hu:u∈x.map (Value.int .u8)):u.oneCell'=true:=by
 obtain⟨z,_,rfl⟩:=List.mem_map.1 hu
 rfl
def KDig:Kind (List Int):={ n:=32,pos:=by decide,cs:=fun z=>z.map (Value.int .u8),d:=[],ok:=fun _ z=>z.length=32∧AllBytes z,len:=fun h=>(List.length_map _).trans h.1,one:=byte_ones,below:=fun h _=>h}
theorem load_dig {w:World} {b o:Nat} {z:List Int} (h:KDig.at w b o z) (hz:z.length=32):(loadVar 26 ⟨b,o,none⟩).run Tryz.prog w=.ok (.agg (bvals z)) w:=
 Kind.at_load (K:=KDig) h (by show (z.map (Value.int .u8)).length=32;rw[List.length_map,hz]) Tryz.underlying26 rfl (by rw[sizeD];rfl)
end
section
open Go.RowKit WM
structure EnA where
 e:En
 A:Option Addr
 c:Nat
structure LnA where
 z:List Int
 n:Int
 r:Int
 A:Option Addr
 c:Nat
 es:List EnA
structure MnA where
 base:List Int
 A:Option Addr
 c:Nat
 ls:List LnA
def enA0:EnA:=⟨en0,none,0⟩
def lnA0:LnA:=⟨z16m,0,0,none,0,[]⟩
def mnA0:MnA:=⟨z32m,none,0,[]⟩
def LnA.x (x:LnA):Ln:=⟨x.z,x.n,x.r,x.es.map (·.e)⟩
def MnA.m (m:MnA):Mn:=⟨m.base,m.ls.map (·.x)⟩
def EnA.cs (x:EnA):List Value:=.int .i64 x.e.no::.int .i64 x.e.n::.int .i64 x.e.r::.int .i64 x.e.len::(x.e.ds.map (Value.int .u8)++[.slice x.A x.e.bs.length x.c])
def LnA.cs (x:LnA):List Value:=x.z.map (Value.int .u8)++[.int .i64 x.n,.int .i64 x.r,.slice x.A x.es.length x.c]
def MnA.cs (m:MnA):List Value:=m.base.map (Value.int .u8)++[.slice m.A m.ls.length m.c]
def EnA.Ok (w:World) (x:EnA):Prop:=(Lit.int .i64 x.e.no).wf=true∧(Lit.int .i64 x.e.n).wf=true∧(Lit.int .i64 x.e.r).wf=true∧(Lit.int .i64 x.e.len).wf=true∧x.e.ds.length=32∧AllBytes x.e.ds∧KSig.row w x.A x.c x.e.bs
theorem EnA.len {w:World} {x:EnA} (h:x.Ok w):x.cs.length=37:=by simp[EnA.cs,h.2.2.2.2.1]
theorem EnA.one (x:EnA) (u:Value) (hu:u∈x.cs):u.oneCell'=true:=by
 simp only[EnA.cs,List.mem_cons,List.mem_append,List.not_mem_nil,or_false]at hu;rcases hu with rfl | rfl | rfl | rfl | hu | rfl
 ·rfl
 ·rfl
 ·rfl
 ·rfl
 ·exact byte_ones _ u hu
 ·rfl
theorem EnA.below {w w':World} {x:EnA} (h:x.Ok w) (hb:Below w.heap.size w w'):x.Ok w':=⟨h.1,h.2.1,h.2.2.1,h.2.2.2.1,h.2.2.2.2.1,h.2.2.2.2.2.1,Kind.row_below h.2.2.2.2.2.2 hb Nl⟩
def KEn:Kind EnA:={ n:=37,pos:=by decide,cs:=EnA.cs,d:=enA0,ok:=fun w x=>x.Ok w,len:=fun h=>EnA.len h,one:=EnA.one,below:=fun h hb=>EnA.below h hb}
def LnA.Ok (w:World) (x:LnA):Prop:=x.z.length=16∧AllBytes x.z∧(Lit.int .i64 x.n).wf=true∧(Lit.int .i64 x.r).wf=true∧KEn.row w x.A x.c x.es
theorem LnA.len {w:World} {x:LnA} (h:x.Ok w):x.cs.length=19:=by simp[LnA.cs,h.1]
theorem LnA.one (x:LnA) (u:Value) (hu:u∈x.cs):u.oneCell'=true:=by
 simp only[LnA.cs,List.mem_cons,List.mem_append,List.not_mem_nil,or_false]at hu;rcases hu with hu | rfl | rfl | rfl
 ·exact byte_ones _ u hu
 ·rfl
 ·rfl
 ·rfl
theorem LnA.below {w w':World} {x:LnA} (h:x.Ok w) (hb:Below w.heap.size w w'):x.Ok w':=⟨h.1,h.2.1,h.2.2.1,h.2.2.2.1,Kind.row_below h.2.2.2.2 hb Nl⟩
def KLn:Kind LnA:={ n:=19,pos:=by decide,cs:=LnA.cs,d:=lnA0,ok:=fun w x=>x.Ok w,len:=fun h=>LnA.len h,one:=LnA.one,below:=fun h hb=>LnA.below h hb}
def MnA.v (m:MnA):Value:=.agg m.cs.toArray
def MnA.Ok (w:World) (m:MnA):Prop:=m.base.length=32∧AllBytes m.base∧KLn.row w m.A m.c m.ls
theorem MnA.below {w w':World} {m:MnA} (h:m.Ok w) (hb:Below w.heap.size w w'):m.Ok w':=⟨h.1,h.2.1,Kind.row_below h.2.2 hb Nl⟩
theorem MnA.len {w:World} {m:MnA} (h:m.Ok w):m.cs.length=33:=by simp[MnA.cs,h.1]
theorem sizeEn (w:World):(sizeOf 68).run Tryz.prog w=.ok KEn.n w:=by
 simp[sizeOf,go_sem]
 rfl
theorem sizeLn (w:World):(sizeOf 63).run Tryz.prog w=.ok KLn.n w:=by
 simp[sizeOf,go_sem]
 rfl
theorem nEn:KEn.n≤1000:=by decide
theorem nLn:KLn.n≤1000:=by decide
theorem infoEn:(Tryz.prog.info? 68).map (fun i=>(i.zero,i.size,i.bytes))=some (some (KEn.v enA0),37,88):=by kernel_rfl
theorem infoLn:(Tryz.prog.info? 63).map (fun i=>(i.zero,i.size,i.bytes))=some (some (KLn.v lnA0),19,56):=by kernel_rfl
theorem infoMn:(Tryz.prog.info? 29).map (fun i=>(i.zero,i.size,i.bytes))=some (some mnA0.v,33,56):=by kernel_rfl
theorem zeroEn (w:World):(zeroValue 68).run Tryz.prog w=.ok (KEn.v enA0) w:=by
 obtain⟨i,hi,hz,hs,hb⟩:=info_parts infoEn;simp[zeroValue,typeInfo,hi,hz,Sem.run_bind]
theorem zeroLn (w:World):(zeroValue 63).run Tryz.prog w=.ok (KLn.v lnA0) w:=by
 obtain⟨i,hi,hz,hs,hb⟩:=info_parts infoLn;simp[zeroValue,typeInfo,hi,hz,Sem.run_bind]
theorem zeroMn (w:World):(zeroValue 29).run Tryz.prog w=.ok mnA0.v w:=by
 obtain⟨i,hi,hz,hs,hb⟩:=info_parts infoMn;simp[zeroValue,typeInfo,hi,hz,Sem.run_bind]
theorem load_en {w:World} {b o:Nat} {x:EnA} (h:KEn.at w b o x) (hx:x.Ok w):(loadVar 68 ⟨b,o,none⟩).run Tryz.prog w=.ok (KEn.v x) w:=
 Kind.at_load h (EnA.len hx) Tryz.underlying68 rfl (by obtain⟨i,hi,_,hs,_⟩:=info_parts infoEn;rw[hi];exact congrArg some hs)
theorem load_ln {w:World} {b o:Nat} {x:LnA} (h:KLn.at w b o x) (hx:x.Ok w):(loadVar 63 ⟨b,o,none⟩).run Tryz.prog w=.ok (KLn.v x) w:=
 Kind.at_load h (LnA.len hx) Tryz.underlying63 rfl (by obtain⟨i,hi,_,hs,_⟩:=info_parts infoLn;rw[hi];exact congrArg some hs)
theorem en_row {w:World} {A:Option Addr} {c:Nat} {xs:List EnA} (h:KEn.row w A c xs) (h0:0<xs.length):∃ b off,A=some ⟨b,off,none⟩∧b<w.heap.size∧(∀ i,i<xs.length→KEn.at w b (off+i*37) (xs.getD i enA0))∧∀ (i:Nat),i<xs.length→∀ (I:Int),I=i→∀ (X:World),(Instr.indexAt 61 (.slice (some ⟨b,off,none⟩) xs.length c) (.int .i64 I)).run Tryz.prog X=.ok (.pointer (some ⟨b,off+i*37,none⟩)) X:=by
 obtain⟨b,off,hA,hb,hc⟩:=h.2.2.2.1 h0;exact⟨b,off,hA,hb,hc,fun i hi I e X=>Kind.ix (K:=KEn) (P:=Tryz.prog) (ts:=61) Tryz.underlying61 (fun w=>sizeEn w) hi I e X⟩
theorem ln_row {w:World} {A:Option Addr} {c:Nat} {xs:List LnA} (h:KLn.row w A c xs) (h0:0<xs.length):∃ b off,A=some ⟨b,off,none⟩∧b<w.heap.size∧(∀ i,i<xs.length→KLn.at w b (off+i*19) (xs.getD i lnA0))∧∀ (i:Nat),i<xs.length→∀ (I:Int),I=i→∀ (X:World),(Instr.indexAt 27 (.slice (some ⟨b,off,none⟩) xs.length c) (.int .i64 I)).run Tryz.prog X=.ok (.pointer (some ⟨b,off+i*19,none⟩)) X:=by
 obtain⟨b,off,hA,hb,hc⟩:=h.2.2.2.1 h0;exact⟨b,off,hA,hb,hc,fun i hi I e X=>Kind.ix (K:=KLn) (P:=Tryz.prog) (ts:=27) Tryz.underlying27 (fun w=>sizeLn w) hi I e X⟩
end
end Go.Proofs.YtnlhkpmgbpfjmaaGreatDoor
