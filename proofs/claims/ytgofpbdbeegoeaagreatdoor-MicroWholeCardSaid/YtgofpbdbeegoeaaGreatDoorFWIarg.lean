/- A []int and a []uint32 argument opened. -/
import Derived.Test.YtgofpbdbeegoeaaGreatDoorFWSrl
import Derived.Test.YtgofpbdbeegoeaaGreatDoorFWCarg
import Derived.Test.YtgofpbdbeegoeaaGreatDoorFWEstepl
namespace Go.Proofs.YtgofpbdbeegoeaaGreatDoor
open Go.ChangeShapes Go.WideShapes Go.ChangeAt Go.RowKit
set_option linter.unusedVariables false

section
variable {H:Type} {enc:TypeId × Value→H} {W:World} {base:Nat}
theorem k40:Tryz.prog.cellsOf 26=1:=by kernel_rfl
end

section
variable {H:Type} {enc:TypeId × Value→H} {W:World} {base:Nat}
theorem kRun:Tryz.prog.cellsOf 31=5:=by kernel_rfl
theorem kSlU:Tryz.prog.cellsOf 27=1:=by kernel_rfl
theorem kSlL:Tryz.prog.cellsOf 28=1:=by kernel_rfl
theorem array5 {a:Array Value} (h:a.size=5):∃ c0 c1 c2 c3 c4,a=#[c0,c1,c2,c3,c4]:=by
 obtain ⟨l⟩:=a
 match l,h with
 | [c0,c1,c2,c3,c4],_=>exact ⟨c0,c1,c2,c3,c4,rfl⟩
set_option maxRecDepth 100000 in
theorem hist_of {v:Value} {fuel:Nat} {y:DataW H × List MemPlace} (hf:DataW.trod enc Tryz.prog W 0 (fun _=>true) true fuel 27 [v]=some y):∃ xs:List Nat,HistAt W v xs:=by
 obtain ⟨xs,h1,_,h2⟩:=rows_of (P:=U32At) (G:=fun _=>True) (n:=1) Tryz.underlying27 k40 (by decide) (fun b o fuel cs y hc ht=>by
  obtain ⟨k,hk,_,hw⟩:=DataW.trod_int Tryz.underlying26 ht
  subst hk
  simp [Lit.wf] at hw
  have hmin:IntKind.u32.min=0:=by decide
  have hmax:IntKind.u32.max=4294967295:=by decide
  have h0:=(cells_at hc).2 0 (by decide)
  have hk0:((k.toNat:Nat):Int)=k:=by omega
  refine ⟨k.toNat,⟨?_,by omega⟩,trivial⟩
  rw [hk0]
  exact h0) hf
 exact ⟨xs,h1⟩
set_option maxRecDepth 100000 in
theorem nums_of {v:Value} {fuel:Nat} {y:DataW H × List MemPlace} (hf:DataW.trod enc Tryz.prog W 0 (fun _=>true) true fuel 28 [v]=some y):∃ l:List Int,NumsAt W v l∧∀ x ∈ l,F64 x:=by
 obtain ⟨xs,h1,hg,h2⟩:=rows_of (P:=IntAt) (G:=F64) (n:=1) Tryz.underlying28 k64 (by decide) (fun b o fuel cs y hc ht=>by
  obtain ⟨k,hk,_,hw⟩:=DataW.trod_int Tryz.underlying2 ht
  subst hk
  simp only [Lit.wf,Bool.and_eq_true,decide_eq_true_eq] at hw
  exact ⟨k,(cells_at hc).2 0 (by decide),hw⟩) hf
 refine ⟨xs,?_,fun x hx=>(List.getElem?_of_mem hx).elim fun i hi=>hg i x hi⟩
 obtain ⟨A',cap',hv',hc',hi⟩:=h1
 refine ⟨A',cap',hv',hc',fun i x hx=>?_⟩
 obtain ⟨b,o,hA,hb,hcell⟩:=hi i x hx
 exact ⟨b,o,hA,hb,by unfold IntAt at hcell; rwa [Nat.mul_one] at hcell⟩
set_option maxRecDepth 100000 in
theorem run_of_arg {v:Value} {d:DataW H} {ps:List MemPlace} (hv:Value.okWide Tryz.prog W .any base 31 v) (h:DataW.Trod enc Tryz.prog W 0 (fun _=>true) true 31 v d ps) :
 ∃ (n:Nat) (vh ve vi:Value) (H:List Nat) (env ins:List Int) (st:Int),v=.agg #[.int .u32 (n:Int),vh,ve,vi,.int .i64 st]∧n < 4294967296∧HistAt W vh H∧NumsAt W ve env∧(∀ x ∈ env,F64 x)∧ListAt W vi ins:=by
 obtain ⟨cs,rfl,hsz⟩:=okWide_struct Tryz.underlying31 hv
 obtain ⟨v0,v1,v2,v3,v4,rfl⟩:=array5 (hsz.trans kRun)
 obtain ⟨fuel,hf⟩:=h
 have hf':DataW.trod enc Tryz.prog W 0 (fun _=>true) true fuel 31 [v0,v1,v2,v3,v4]=some (d,ps):=hf
 obtain ⟨xs,m,_,_,hlen,hxs,hg⟩:=DataW.trod_struct Tryz.underlying31 hf'
 match xs,hxs with
 | [x0,x1,x2,x3,x4],_ =>
  have g0:DataW.trod enc Tryz.prog W 0 (fun _=>true) true m 26 (([v0,v1,v2,v3,v4].drop 0).take (Tryz.prog.cellsOf 26))=some x0:=hg 0 _ rfl
  have g1:DataW.trod enc Tryz.prog W 0 (fun _=>true) true m 27 (([v0,v1,v2,v3,v4].drop 1).take (Tryz.prog.cellsOf 27))=some x1:=hg 1 _ rfl
  have g2:DataW.trod enc Tryz.prog W 0 (fun _=>true) true m 28 (([v0,v1,v2,v3,v4].drop 2).take (Tryz.prog.cellsOf 28))=some x2:=hg 2 _ rfl
  have g3:DataW.trod enc Tryz.prog W 0 (fun _=>true) true m 29 (([v0,v1,v2,v3,v4].drop 3).take (Tryz.prog.cellsOf 29))=some x3:=hg 3 _ rfl
  have g4:DataW.trod enc Tryz.prog W 0 (fun _=>true) true m 3 (([v0,v1,v2,v3,v4].drop 4).take (Tryz.prog.cellsOf 3))=some x4:=hg 4 _ rfl
  rw [k40] at g0
  rw [kSlU] at g1
  rw [kSlL] at g2
  rw [k29] at g3
  rw [k3] at g4
  obtain ⟨k,hk,_,hw⟩:=DataW.trod_int Tryz.underlying26 (show DataW.trod enc Tryz.prog W 0 (fun _=>true) true m 26 [v0]=some x0 from g0)
  obtain ⟨lh,h1⟩:=hist_of (show DataW.trod enc Tryz.prog W 0 (fun _=>true) true m 27 [v1]=some x1 from g1)
  obtain ⟨le,h2,h2'⟩:=nums_of (show DataW.trod enc Tryz.prog W 0 (fun _=>true) true m 28 [v2]=some x2 from g2)
  obtain ⟨li,h3,_⟩:=ints_of (show DataW.trod enc Tryz.prog W 0 (fun _=>true) true m 29 [v3]=some x3 from g3)
  obtain ⟨p,hp,_⟩:=DataW.trod_int Tryz.underlying3 (show DataW.trod enc Tryz.prog W 0 (fun _=>true) true m 3 [v4]=some x4 from g4)
  simp only [List.cons.injEq,and_true] at hk hp
  subst hk; subst hp
  simp [Lit.wf] at hw
  have hmin:IntKind.u32.min=0:=by decide
  have hmax:IntKind.u32.max=4294967295:=by decide
  have hk0:((k.toNat:Nat):Int)=k:=by omega
  exact ⟨k.toNat,v1,v2,v3,lh,le,li,p,by rw [hk0],by omega,h1,h2,h2',h3⟩
end
end Go.Proofs.YtgofpbdbeegoeaaGreatDoor
