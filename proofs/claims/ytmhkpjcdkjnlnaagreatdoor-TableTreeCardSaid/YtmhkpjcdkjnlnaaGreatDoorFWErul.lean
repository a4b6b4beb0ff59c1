/- The contracts of expr's small functions: truth, holds, worthOfTwo, ruleOf, takes. -/
import Derived.Test.YtmhkpjcdkjnlnaaGreatDoorFWEpure
import Derived.Test.YtmhkpjcdkjnlnaaGreatDoorFWZgen
import Derived.Test.YtmhkpjcdkjnlnaaGreatDoorFWNbase
namespace Go.Proofs.YtmhkpjcdkjnlnaaGreatDoor
open Go.ChangeShapes Go.WideShapes Go.ChangeAt Go.RowKit
set_option linter.unusedVariables false

theorem results_one3 {fn:Func} {r:Tmp} (hr:fn.results=#[.cell r 220]) (tmps:Array Value) (w:World) (g:Nat) (a b c:Value)
 (hp:tmps.getD r undef=.pointer (some ⟨g,0,none⟩)) (hB:Blk w g 220 #[a,b,c]) :
 (results fn tmps).run Tryz.prog w=.ok (.agg #[a,b,c]) w:=by
 have c0:=hB.cell 0
 have c1:=hB.cell 1
 have c2:=hB.cell 2
 simp at c0 c1 c2 hp
 simp [results,hr,hp,go_sem,c0,c1,c2]
theorem ret_rul {k a b c:Int} (h:rul k=(a,b,c)):Ending.returned (.agg #[.int .i64 a,.int .i64 b,.int .i64 c])=.returned (.agg #[.int .i64 (rul k).1,.int .i64 (rul k).2.1,.int .i64 (rul k).2.2]):=by rw [h]
set_option maxHeartbeats 2000000 in
theorem ruleOf_any (k:Int) (w:World):Calls Tryz.prog 203 #[.int .i64 k] w fun e w'=>e=.returned (.agg #[.int .i64 (rul k).1,.int .i64 (rul k).2.1,.int .i64 (rul k).2.2])∧Below w.heap.size w w':=by
 go_enter Tryz.func203,Tryz.ntmps203
 go_wp2
 all_goals
  refine bodyPost_ret (results_one3 Tryz.results203 _ _ w.heap.size _ _ _ (by rfl) (Blk.new w 220 _)) rfl ⟨ret_rul ?_,(Below.refl _ _).alloc (Nat.le_refl _) _⟩
  unfold rul
  (repeat' split) <;> first | rfl | (exfalso; omega) | (exfalso; simp_all; omega) | (exfalso; simp_all)
def NumsAt (w:World) (v:Value) (xs:List Int):Prop :=
 ∃ (A:Option Addr) (cap:Nat),v=.slice A xs.length cap∧xs.length≤cap∧∀ (i:Nat) (x:Int),xs[i]?=some x→∃ b o:Nat,A=some ⟨b,o,none⟩∧b < w.heap.size∧w.cell? ⟨b,o+i,none⟩=some (.int .i64 x)
theorem NumsAt.below {w w':World} {v:Value} {xs:List Int} (h:NumsAt w v xs) (hb:Below w.heap.size w w'):NumsAt w' v xs:=by
 obtain ⟨A,cap,hv,hc,hi⟩:=h
 refine ⟨A,cap,hv,hc,fun i t ht=>?_⟩
 obtain ⟨b,o,hA,hlt,h0⟩:=hi i t ht
 exact ⟨b,o,hA,Nat.lt_of_lt_of_le hlt hb.size,(hb.cell (p:=⟨b,_,none⟩) hlt).trans h0⟩
theorem tks_zero (k:Int) (r:List Int):tks 0 (k :: r)=tks k r:=by rw [tks,if_pos rfl]
theorem tks_same {k:Int} (r:List Int) (h:k ≠ 0):tks k (k :: r)=tks k r:=by rw [tks,if_neg h,if_pos rfl]
theorem tks_other {k j:Int} (r:List Int) (h:k ≠ 0) (hj:j ≠ k):tks k (j :: r)=false:=by rw [tks,if_neg h,if_neg hj]
set_option maxHeartbeats 2000000 in
set_option maxRecDepth 100000 in
theorem rtks_any (c kk gv:Int) (v:Value) (xs:List Int) (w:World) (hv:NumsAt w v xs) (hx:∀ x ∈ xs,x ≠ 0) (hl:xs.length≤1000) :
 Calls Tryz.prog 204 #[.agg #[.int .i64 c,.int .i64 kk,.int .i64 gv],v] w fun e w'=>e=.returned (.bool (tks kk xs))∧Below w.heap.size w w':=by
 obtain ⟨A,cap,rfl,hc,hel⟩:=hv
 have HE:=Lib.hid hel
 have HX:=Lib.hid hx
 clear hel hx
 go_enter Tryz.func204,Tryz.ntmps204
 go_wp2_with fail
 go_loopw [9] (fun i wr=>∃ (k:Nat) (j:Int),k≤xs.length∧i=.int .i64 (k:Int)∧Hid (tks j (xs.drop k)=tks kk xs)∧Blk wr w.heap.size 220 #[.int .i64 c,.int .i64 j,.int .i64 gv]∧Below w.heap.size w wr) (fun i _=>xs.length - (intOf i).toNat)
 case atStart=>exact ⟨0,kk,Nat.zero_le _,rfl,Lib.hid rfl,Blk.new _ _ _,(Below.refl _ _).alloc (Nat.le_refl _) _⟩
 case round =>
  obtain ⟨k,j,hk,rfl,hC,hB,hb⟩:=hrel
  obtain ⟨wo,rfl⟩:∃ wo:World,wo=wr:=⟨_,rfl⟩
  obtain ⟨⟨d0,d1,d2⟩,e0,e1,e2⟩:=hB.facts3
  by_cases hlt:k < xs.length
  · obtain ⟨b,o,rfl,hbw,c0⟩:=HE.out k xs[k] (List.getElem?_eq_getElem hlt)
    have c0:wo.cell? ⟨b,o+k,none⟩=_:=(hb.cell (p:=⟨b,_,none⟩) hbw).trans c0
    have HD:=Lib.hid (List.drop_eq_getElem_cons hlt)
    have hx0:=HX.out xs[k] (List.getElem_mem hlt)
    generalize xs[k]=x at *
    have HB:=Lib.hid hB
    clear hB
    by_cases hj:j=0
    · subst hj
      have HC:=Lib.hid (show tks x (xs.drop (k+1))=tks kk xs by rw [← hC.out,HD.out,tks_zero])
      clear hC
      go_wp2
      go_roundw
      case rel=>exact ⟨k+1,x,by omega,by go_num,HC,HB.out.set_ 1 _,hb.setCell (by simp) _⟩
      case measure=>simp [intOf]; omega
    · have hj2:(j == 0)=false:=by simpa using hj
      by_cases hxj:x=j
      · subst hxj
        have HC:=Lib.hid (show tks x (xs.drop (k+1))=tks kk xs by rw [← hC.out,HD.out,tks_same _ hj])
        have hxx:(x != x)=false:=by simp
        clear hC
        go_wp2
        go_roundw
        case rel=>exact ⟨k+1,x,by omega,by go_num,HC,HB.out,hb⟩
        case measure=>simp [intOf]; omega
      · have HC:=Lib.hid (show tks kk xs=false by rw [← hC.out,HD.out,tks_other _ hj hxj])
        have hxx:(x != j)=true:=by simpa using hxj
        clear hC
        go_wp2
        go_ret
        exact ⟨by rw [HC.out]; rfl,hb⟩
  · obtain rfl:k=xs.length:=by omega
    have HC:=Lib.hid (show tks kk xs=true by rw [← hC.out,List.drop_length,tks])
    clear hC hB
    go_wp2
    go_ret
    exact ⟨by rw [HC.out]; rfl,hb⟩
end Go.Proofs.YtmhkpjcdkjnlnaaGreatDoor
