import Derived.WalkKit
import Derived.Deep.Draws
import Derived.Deep.RegionHeld3
import Derived.WalkKit
import Derived.Laws.BitsAllLaws
import Derived.Laws.BytesArg
import Derived.Deep.OwnRows
import Derived.Deep.Draws
import Derived.Lib.Hide
import Derived.Deep.RegionHeld3
import Derived.Laws.AppendOwnNone
import Derived.OpenShut
import Derived.Lib.AppendStr
import Derived.Test.YtnlhkpmgbpfjmaaGreatDoorProg
import Derived.WalkMore
import Derived.Laws.Cover1
/-
  Short forms that the other texts use.
-/
namespace Go.Proofs.YtnlhkpmgbpfjmaaGreatDoor
set_option linter.unusedVariables false
set_option linter.unusedSimpArgs false
theorem Yy {p:Prop} (h:p):RowKit.Hid p:=h
theorem Nl {n:Nat}:n≤n:=Nat.le_refl n
theorem Z2 {α:Type} {l:List α} {i:Nat} {a:α}:l.toArray.setIfInBounds i a=(l.set i a).toArray:=by simp
theorem Z3 {α:Type} {a b:α} {l:List α}:(a::l).set 0 b=b::l:=rfl
theorem Z4 {α:Type} {a b:α} {l:List α} {n:Nat}:(a::l).set (n+1) b=a::l.set n b:=rfl
theorem wpHv {P:Program} {ops:Array Oper} {Q:Exit→Act→World→Prop} {md:Region.Mode} {S:World→Prop} {i:Nat} {oi:Oper} {v:Value} {fuel:Nat} {listed:Array Bool} {a:Act} {w:World} (hi:ops[i]?=some oi) (hx:∀ w,S w→(execOp a.eval oi).run P w=.ok (.value v) w) (hS:S w)
    (h:wpAnyH P md ops Q S fuel (listed.setIfInBounds i true) (a.put oi.dst v) w) (hQ:∀ c a w,Q (.panic c) (a.put oi.dst v) w→Q (.panic c) a w:=by exact fun _ _ _ h=>h) (hw:Region.wanted oi (yielded ops a.tmps)=true:=by rfl)
    (hs:Region.noSelect ops=true:=by kernel_rfl) (hf:Region.free md ops listed i=true:=by kernel_rfl) (hr:(Region.ready md ops listed).contains i=true:=by kernel_rfl):wpAnyH P md ops Q S (fuel+1) listed a w:=
  wpAnyH_take hi hs hf hr hQ (Or.inl ⟨hw,hx⟩) hS h
section
variable {P:Program} {ops:Array Oper} {Q:Exit→Act→World→Prop} {md:Region.Mode}
theorem YyL {rest:List Oper} {d:Option Tmp} {pos:String} {af:Array Edge} {g:Option (Nat×Bool)} {tt:TypeId} {a:Act} {w:World} (ty:TypeId) (x:Operand) (ad:Addr) {v:Value} (hv:(loadVar ty ad).run P w=.ok v w)
    (hw:Region.wanted ⟨d,.load ty x,tt,pos,af,g⟩ (yielded ops a.tmps)=true) (hx:a.eval x=.pointer (some ad)) (h:wpList P ops Q rest (a.put d v) w):wpList P ops Q (⟨d,.load ty x,tt,pos,af,g⟩::rest) a w:=
  BigFrame.wpList_want hw fun _ hK=>by
    unfold Oper.wp execOp
    simp only[hx,Instr.loadAt,Instr.sureAddr,Sem.run_bind,Sem.run_pure,Result.andThen_ok,hv]
    exact hK _ _ h
end
section
variable {P:Program} {ops:Array Oper} {Q:Exit→Act→World→Prop} {md:Region.Mode} {S:World→Prop} {w:World} {fuel:Nat} {l:Array Bool} {a a':Act} {op:Op} {tt:TypeId} {pos:String} {af:Array Edge} {gd:Option (Nat×Bool)}
theorem YHd (i:Nat) (d:Option Tmp) (v:Value) (hi:ops[i]?=some ⟨d,op,tt,pos,af,gd⟩) (hS:S w) (hx:∀ w,S w→(execOp a.eval ⟨d,op,tt,pos,af,gd⟩).run P w=.ok (.value v) w) (h:wpAnyH P md ops Q S fuel (l.setIfInBounds i true) a' w)
    (ha:a.put d v=a':=by simp only[Act.put,Z2,Z3,Z4];rfl) (hQ:∀ c a w,Q (.panic c) (a.put d v) w→Q (.panic c) a w:=by exact fun _ _ _ h=>h) (hw:Region.wanted ⟨d,op,tt,pos,af,gd⟩ (yielded ops a.tmps)=true:=by rfl)
    (hs:Region.noSelect ops=true:=by kernel_rfl) (hf:Region.free md ops l i=true:=by kernel_rfl) (hr:(Region.ready md ops l).contains i=true:=by kernel_rfl):wpAnyH P md ops Q S (fuel+1) l a w:=
  wpAnyH_take hi hs hf hr hQ (Or.inl ⟨hw,hx⟩) hS (by rw[ha];exact h)
theorem YHa (i:Nat) (d:Option Tmp) {v:Value} (hi:ops[i]?=some ⟨d,op,tt,pos,af,gd⟩) (hS:S w) (h:wpAnyH P md ops Q S fuel (l.setIfInBounds i true) a' w) (hx:∀ w,S w→(execOp a.eval ⟨d,op,tt,pos,af,gd⟩).run P w=.ok (.value v) w:=by intro w9 hSw;go_simp;try with_reducible rfl)
    (ha:a.put d v=a':=by simp only[Act.put,Z2,Z3,Z4];rfl) (hQ:∀ c a w,Q (.panic c) (a.put d v) w→Q (.panic c) a w:=by exact fun _ _ _ h=>h) (hw:Region.wanted ⟨d,op,tt,pos,af,gd⟩ (yielded ops a.tmps)=true:=by rfl)
    (hs:Region.noSelect ops=true:=by kernel_rfl) (hf:Region.free md ops l i=true:=by kernel_rfl) (hr:(Region.ready md ops l).contains i=true:=by kernel_rfl):wpAnyH P md ops Q S (fuel+1) l a w:=
  YHd i d v hi hS hx h ha hQ hw hs hf hr
theorem YHb (i:Nat) (d:Option Tmp) {v:Value} {p:World→Prop} (hi:ops[i]?=some ⟨d,op,tt,pos,af,gd⟩) (hS:S w) (q:∀ w,S w→p w) (h:wpAnyH P md ops Q S fuel (l.setIfInBounds i true) a' w) (hx:∀ w,S w→p w→(execOp a.eval ⟨d,op,tt,pos,af,gd⟩).run P w=.ok (.value v) w:=by intro w9 hSw q0;go_simp;try with_reducible rfl)
    (ha:a.put d v=a':=by simp only[Act.put,Z2,Z3,Z4];rfl) (hQ:∀ c a w,Q (.panic c) (a.put d v) w→Q (.panic c) a w:=by exact fun _ _ _ h=>h) (hw:Region.wanted ⟨d,op,tt,pos,af,gd⟩ (yielded ops a.tmps)=true:=by rfl)
    (hs:Region.noSelect ops=true:=by kernel_rfl) (hf:Region.free md ops l i=true:=by kernel_rfl) (hr:(Region.ready md ops l).contains i=true:=by kernel_rfl):wpAnyH P md ops Q S (fuel+1) l a w:=
  YHd i d v hi hS (fun w hw=>hx w hw (q w hw)) h ha hQ hw hs hf hr
theorem YHc (i:Nat) (d:Option Tmp) {v:Value} {p p':World→Prop} (hi:ops[i]?=some ⟨d,op,tt,pos,af,gd⟩) (hS:S w) (q:∀ w,S w→p w) (q':∀ w,S w→p' w) (h:wpAnyH P md ops Q S fuel (l.setIfInBounds i true) a' w) (hx:∀ w,S w→p w→p' w→(execOp a.eval ⟨d,op,tt,pos,af,gd⟩).run P w=.ok (.value v) w:=by intro w9 hSw q0 q1;go_simp;try with_reducible rfl)
    (ha:a.put d v=a':=by simp only[Act.put,Z2,Z3,Z4];rfl) (hQ:∀ c a w,Q (.panic c) (a.put d v) w→Q (.panic c) a w:=by exact fun _ _ _ h=>h) (hw:Region.wanted ⟨d,op,tt,pos,af,gd⟩ (yielded ops a.tmps)=true:=by rfl)
    (hs:Region.noSelect ops=true:=by kernel_rfl) (hf:Region.free md ops l i=true:=by kernel_rfl) (hr:(Region.ready md ops l).contains i=true:=by kernel_rfl):wpAnyH P md ops Q S (fuel+1) l a w:=
  YHd i d v hi hS (fun w hw=>hx w hw (q w hw) (q' w hw)) h ha hQ hw hs hf hr
end
end Go.Proofs.YtnlhkpmgbpfjmaaGreatDoor
