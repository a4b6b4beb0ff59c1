/- The steps of a drawn region, what is the same everywhere left out. No program in this text. -/
import Derived.Test.YtmhkpjcdkjnlnaaGreatDoorFWDrw
import Derived.Test.YtmhkpjcdkjnlnaaGreatDoorFWZgen
namespace Go.Proofs.YtmhkpjcdkjnlnaaGreatDoor
open Go.RowKit
set_option linter.unusedVariables false
theorem sx:(∀ {α:Type} (a:List α) (i:Nat) (v:α),a.toArray.setIfInBounds i v=(a.set i v).toArray)∧(∀ {α:Type} (x v:α) (l:List α),(x :: l).set 0 v=v :: l)∧(∀ {α:Type} (x v:α) (l:List α) (i:Nat),(x :: l).set (i+1) v=x :: l.set i v) ∧
 (∀ {α:Type} (a:List α) (i:Nat) (h:i < a.toArray.size),a.toArray[i]=a[i]'h)∧(∀ {α:Type} (x:α) (l:List α) (h:0 < (x :: l).length),(x :: l)[0]=x)∧(∀ {α:Type} (x:α) (l:List α) (i:Nat) (h:i+1 < (x :: l).length),(x :: l)[i+1]=l[i]'(Nat.lt_of_succ_lt_succ h)) :=
 ⟨fun a i v=>List.setIfInBounds_toArray ..,fun x v l=>rfl,fun x v l i=>rfl,fun a i h=>rfl,fun x l h=>rfl,fun x l i h=>rfl⟩
section
variable {P:Program} {ops:Array Oper} {Q:Exit→Act→World→Prop} {md:Region.Mode} {S:World→Prop} {D:Nat→Bool}
theorem anyD_t (i:Nat) (v:Value) {oi:Oper} {fuel:Nat} {listed:Array Bool} {a:Act} {w:World}
 (h:anyD P md ops Q S D fuel (listed.setIfInBounds i true) (a.put oi.dst v) w) (hi:ops[i]?=some oi:=by exact rfl)
 (hs:Region.noSelect ops=true:=by kernel_rfl) (hf:Region.free md ops listed i=true:=by kernel_rfl) (hr:(Region.ready md ops listed).contains i=true:=by kernel_rfl)
 (hQ:∀ c a w,Q (.panic c) (a.put oi.dst v) w→Q (.panic c) a w:=by exact fun _ _ _ h=>h) (hy:Yields P ops oi v a:=by exact Or.inl ⟨by kernel_rfl,fun w=>by go_simp⟩):anyD P md ops Q S D (fuel+1) listed a w :=
 anyD_take hi hs hf hr hQ hy h
theorem anyD_l (i:Nat) (v:Value) {oi:Oper} {fuel:Nat} {listed:Array Bool} {a:Act} {w:World} (hS:S w)
 (h:anyD P md ops Q S D fuel (listed.setIfInBounds i true) (a.put oi.dst v) w) (hi:ops[i]?=some oi:=by exact rfl)
 (hs:Region.noSelect ops=true:=by kernel_rfl) (hf:Region.free md ops listed i=true:=by kernel_rfl) (hr:(Region.ready md ops listed).contains i=true:=by kernel_rfl) (hl:lateB md ops D i=true:=by kernel_rfl)
 (hQ:∀ c a w,Q (.panic c) (a.put oi.dst v) w→Q (.panic c) a w:=by exact fun _ _ _ h=>h) (hy:YieldsIf P ops S oi v a:=by exact Or.inl ⟨by kernel_rfl,fun w hS=>by (try simp only at hS); go_simp⟩):anyD P md ops Q S D (fuel+1) listed a w :=
 anyD_load hi hs hf hr hl hQ hy hS h
end
end Go.Proofs.YtmhkpjcdkjnlnaaGreatDoor
