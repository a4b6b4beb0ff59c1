/- The contracts of table's statesOf and guardsOf. -/
import Derived.Test.YtmhkpjcdkjnlnaaGreatDoorFWWent
import Derived.Test.YtmhkpjcdkjnlnaaGreatDoorFWTnw
import Derived.Test.YtmhkpjcdkjnlnaaGreatDoorFWPparse
namespace Go.Proofs.YtmhkpjcdkjnlnaaGreatDoor
open Go.ChangeShapes Go.WideShapes Go.ChangeAt Go.RowKit
set_option linter.unusedVariables false

theorem Tryz.infoTS:(Tryz.prog.info? 100).map (fun i=>(i.zero,i.size,i.bytes))=some (some (.agg #[.int .u32 0,.int .u32 0,.int .u32 0,.int .u32 0,.slice none 0 0]),5,40):=by kernel_rfl
theorem Tryz.infoTG:(Tryz.prog.info? 136).map (fun i=>(i.zero,i.size,i.bytes))=some (some (.slice none 0 0),1,24):=by kernel_rfl
theorem Tryz.underTS:Tryz.prog.underlying 83=some (.slice 100):=by kernel_rfl
theorem Tryz.underTG:Tryz.prog.underlying 85=some (.slice 136):=by kernel_rfl
abbrev tsZ (n:Nat):Array Value:=madeCells #[.int .u32 0,.int .u32 0,.int .u32 0,.int .u32 0,.slice none 0 0] (n * 5)
theorem make_ts (n:Nat) (hn:n≤1000) (W:World):(Instr.makeSlice 83 (.int .i64 (n:Int)) (.int .i64 (n:Int))).run Tryz.prog W=.ok (.slice (some ⟨W.heap.size,0,none⟩) n n) (W.alloc (.cells (tsZ n) 100)):=by
 obtain ⟨i,hi,hz,hs,hy⟩:=info_parts Tryz.infoTS
 have:=run_make (P:=Tryz.prog) W 83 100 i _ Tryz.underTS hi hz .i64 .i64 (n:Int) (n:Int) (by omega) (by omega) (by rw [hy]; omega) (by omega)
 rw [hs] at this
 simpa [Value.cells] using this
theorem make_tg (n:Nat) (hn:n≤1000) (W:World):(Instr.makeSlice 85 (.int .i64 (n:Int)) (.int .i64 (n:Int))).run Tryz.prog W=.ok (.slice (some ⟨W.heap.size,0,none⟩) n n) (W.alloc (.cells (madeCells #[.slice none 0 0] n) 136)):=by
 obtain ⟨i,hi,hz,hs,hy⟩:=info_parts Tryz.infoTG
 have:=run_make (P:=Tryz.prog) W 85 136 i _ Tryz.underTG hi hz .i64 .i64 (n:Int) (n:Int) (by omega) (by omega) (by rw [hy]; omega) (by omega)
 rw [hs] at this
 simpa [Value.cells] using this
theorem few_guardC {C:Ch} (hF:fewB C=true) {k:Nat} (hk:k < C.trs.length):(trAt C.trs (k:Int)).guard.size≤1000000:=by have:=few_guard hF hk; omega
set_option maxHeartbeats 8000000 in
set_option maxRecDepth 100000 in
theorem guardsOf_any (vs vt:Value) (C:Ch) (w:World) (hL:Laid w) (hT:TrsAt w vt C.trs) (hF:fewB C=true) :
 Calls Tryz.prog 44 #[.agg #[.int .i64 C.vars,vs,vt]] w fun e w'=>Below w.heap.size w w'∧∃ A n c,e=.returned (.slice A n c):=by
 have hl:C.trs.length≤60:=by have:=(few_parts hF).2.1; omega
 have HMK:=Lib.hid (fun W=>make_tg C.trs.length (by omega) W)
 have HT:=Lib.hid hT
 have HG:=Lib.hid (fun (k:Nat) (hk:k < C.trs.length)=>few_guardC hF hk)
 have HL:=Lib.hid hL
 obtain ⟨A,cap,rfl,hcap⟩:=RowsAt.slice hT
 have hmk:=HMK.out (w.alloc (chBox C.vars vs (.slice A C.trs.length cap)))
 have HB0:=Lib.hid ((below_box w (chBox C.vars vs (.slice A C.trs.length cap))).alloc (by simp) (.cells (madeCells #[.slice none 0 0] C.trs.length) 136))
 have HX0:=Lib.hid ((Blk.new w 25 #[.int .i64 C.vars,vs,.slice A C.trs.length cap]).alloc (.cells (madeCells #[.slice none 0 0] C.trs.length) 136))
 have HY0:Hid (∃ cur,Blk ((w.alloc (chBox C.vars vs (.slice A C.trs.length cap))).alloc (.cells (madeCells #[.slice none 0 0] C.trs.length) 136)) (w.heap.size+1) 136 cur∧cur.size=C.trs.length∧∀ i,i < C.trs.length→∃ B n c,cur[i]?=some (.slice B n c)):=Lib.hid ⟨_,Blk.new_at _ _ _ _ (by simp),by simp [madeCells],fun i hi=>⟨none,0,0,by simp [madeCells,hi,Nat.mod_one]⟩⟩
 obtain ⟨⟨x0,x1,x2⟩,-⟩:=HX0.out.facts3
 clear hL hT hF
 go_enter Tryz.func44,Tryz.ntmps44
 go_wp2_with fail
 generalize (w.alloc (chBox C.vars vs (.slice A C.trs.length cap))).alloc (.cells (madeCells #[.slice none 0 0] C.trs.length) 136)=w1 at *
 go_loopw [13] (fun i wr=>∃ k:Nat,k≤C.trs.length∧i=.int .i64 (k:Int)∧Hid (Below w.heap.size w wr)∧Hid (∃ cur,Blk wr (w.heap.size+1) 136 cur∧cur.size=C.trs.length∧∀ i,i < C.trs.length→∃ B n c,cur[i]?=some (.slice B n c))) (fun i _=>C.trs.length - (intOf i).toNat)
 case atStart=>exact ⟨0,Nat.zero_le _,rfl,HB0,HY0⟩
 case round =>
  clear HB0 HY0 HX0 x0 x1 x2 hmk
  obtain ⟨k,hk,rfl,HB,HY⟩:=hrel
  obtain ⟨wo,rfl⟩:∃ wo:World,wo=wr:=⟨_,rfl⟩
  by_cases hlt:k < C.trs.length
  · obtain ⟨b,o,cap',wt,wa,hsl,_,hbl,hst,hhas⟩:=HT.out.at_ hlt
    injection hsl with e1 e2 e3
    subst e1
    obtain ⟨c0,c1,c2,c3,c4,c5⟩:=hst.below HB.out hbl
    obtain ⟨tA,tcap,aA,acap,rfl,rfl⟩:=hhas.slices
    have HGK:=Lib.hid (HG.out k hlt)
    generalize trAt C.trs (k:Int)=T at *
    obtain ⟨src,e0,guard,tgts,inner,acts⟩:=T
    simp only at c0 c1 c2 c3 c4 c5
    have hbx:=below_box wo (.cells #[.int .i64 src,.int .i64 e0,.string guard,.slice tA tgts.length tcap,.bool inner,.slice aA acts.length acap] 66)
    have HB2:=Lib.hid (HB.out.trans (hbx.mono HB.out.size))
    obtain ⟨cur,hY,hYs,hYc⟩:=HY.out
    have HY2:=Lib.hid (hY.alloc (.cells #[.int .i64 src,.int .i64 e0,.string guard,.slice tA tgts.length tcap,.bool inner,.slice aA acts.length acap] 66))
    have HYS:=Lib.hid hYs
    have HYC:=Lib.hid hYc
    have HPS:=Lib.hid (parse_any guard _ (HL.out.after HB2.out) HGK.out)
    generalize tgts.length=tl at *
    generalize acts.length=al at *
    clear hst hhas e2 e3 hbx hY hYs hYc
    go_wp2_with fail
    refine HPS.out.mono ?_
    intro e w3 hp
    have HPP:Hid (Below (wo.alloc (.cells #[.int .i64 src,.int .i64 e0,.string guard,.slice tA tl tcap,.bool inner,.slice aA al acap] 66)).heap.size (wo.alloc (.cells #[.int .i64 src,.int .i64 e0,.string guard,.slice tA tl tcap,.bool inner,.slice aA al acap] 66)) w3∧∃ B n c E,e=.returned (.tuple #[.slice B n c,E])):=Lib.hid (by
     obtain ⟨h1,h2⟩:=hp
     refine ⟨h1,?_⟩
     revert h2
     cases parseAns guard.data.toList with
     | toks o =>
      rintro ⟨v,rfl,hv⟩
      obtain ⟨B,c,rfl⟩:=own_slice hv
      exact ⟨B,_,c,_,rfl⟩
     | form k =>
      rintro ⟨g,rfl,-⟩
      exact ⟨none,0,0,_,rfl⟩
     | large =>
      intro h
      exact ⟨none,0,0,_,h⟩)
    clear hp HPS
    obtain ⟨hb3,B,bn,bc,E,rfl⟩:=HPP.out
    have HB3:=Lib.hid (HB2.out.trans (hb3.mono HB2.out.size))
    have HY3:=Lib.hid (HY2.out.below hb3 HY2.out.lt)
    clear hb3 HPP c0 c1 c2 c3 c4 c5
    obtain ⟨B0,n0,cc0,hc0⟩:=HYC.out k hlt
    have q0:=(HY3.out.cell k).trans hc0
    have q1:=HY3.out.frozen k
    have HB4:=Lib.hid (HB3.out.setCell (p:=⟨w.heap.size+1,k,none⟩) (by simp) (.slice B bn bc))
    have HY4:Hid (∃ cur,Blk (w3.setCell ⟨w.heap.size+1,k,none⟩ (.slice B bn bc)) (w.heap.size+1) 136 cur∧cur.size=C.trs.length∧∀ i,i < C.trs.length→∃ B n c,cur[i]?=some (.slice B n c)):=Lib.hid ⟨_,HY3.out.set_ k _,by simpa using HYS.out,fun i hi=>by
     by_cases hik:k=i
     · subst hik
       exact ⟨B,bn,bc,Array.getElem?_setIfInBounds_self_of_lt (by have:=HYS.out; omega)⟩
     · obtain ⟨B1,n1,c1,h1⟩:=HYC.out i hi
       exact ⟨B1,n1,c1,by rw [Array.getElem?_setIfInBounds_ne hik]; exact h1⟩⟩
    clear hc0
    go_wp2_with fail
    go_roundw
    case rel=>exact ⟨k+1,by omega,by go_num,HB4,HY4⟩
    case measure=>simp [intOf]; omega
  · obtain rfl:k=C.trs.length:=by omega
    go_wp2_with fail
    go_ret
    exact ⟨HB.out,_,_,_,rfl⟩
end Go.Proofs.YtmhkpjcdkjnlnaaGreatDoor
