/- The contracts of table's bit, setOf and from; sets of bits. -/
import Derived.Test.YtmhkpjcdkjnlnaaGreatDoorFWWpure
import Derived.Test.YtmhkpjcdkjnlnaaGreatDoorFWImem
import Derived.Test.YtmhkpjcdkjnlnaaGreatDoorFWSrl
namespace Go.Proofs.YtmhkpjcdkjnlnaaGreatDoor
open Go.ChangeShapes Go.WideShapes Go.ChangeAt Go.RowKit
set_option linter.unusedVariables false

theorem wor_sets (P Q:Nat→Bool) (n:Nat) (hn:n≤31):bits .or .u32 ((bset P n:Nat):Int) ((bset Q n:Nat):Int)=((bset (orS P Q) n:Nat):Int):=or_sets P Q n hn
theorem bset_empty (n:Nat):bset (fun _=>false) n=0:=(bset_zero _ _).2 (by rw [List.any_eq_false]; intro x _; simp)
def inL (L:List Int):Nat→Bool:=fun j=>decide ((j:Int) ∈ L)
theorem inL_next (L:List Int) {k:Nat} (hlt:k < L.length):addS (inL (L.take k)) L[k]=inL (L.take (k+1)):=by
 funext i
 unfold addS inL
 rw [List.take_succ_eq_append_getElem hlt,Bool.eq_iff_iff]
 simp only [Bool.or_eq_true,decide_eq_true_eq,List.mem_append,List.mem_singleton]
theorem bitW_any (k:Nat) (hk:k≤31) (w:World):Calls Tryz.prog 131 #[.int .i64 (k:Int)] w fun e w'=>e=.returned (.int .u32 ((2 ^ k:Nat):Int))∧w=w':=by
 have h0:decide ((k:Int) < 0)=false:=by simp
 go_enter Tryz.func131,Tryz.ntmps131
 go_wp2_with fail
 go_ret
 refine ⟨ret_int ?_,rfl⟩
 have h1:(2:Nat) ^ k≤2 ^ 31:=Nat.pow_le_pow_right (by decide) hk
 have h2:((2:Int) ^ k)=((2 ^ k:Nat):Int):=by simp
 rw [show (2:Nat) ^ 31=2147483648 by decide] at h1
 rw [h2]
 generalize 2 ^ k=m at *
 omega
set_option maxHeartbeats 4000000 in
set_option maxRecDepth 100000 in
theorem setOf_any (n:Nat) (hn:n≤31) (v:Value) (L:List Int) (w:World) (hv:ListAt w v L) (hl:L.length≤1000) (hM:∀ x ∈ L,∃ j:Nat,x=(j:Int)∧j < n) :
 Calls Tryz.prog 82 #[v] w fun e w'=>e=.returned (.int .u32 ((bset (inL L) n:Nat):Int))∧Below w.heap.size w w':=by
 obtain ⟨A,cap,rfl,hcap,he⟩:=hv
 have HE:=Lib.hid he
 have HMEM:=Lib.hid hM
 clear he hM
 go_enter Tryz.func82,Tryz.ntmps82
 go_wp2_with fail
 go_loopw [3,8] (fun v i wr=>∃ k:Nat,k≤L.length∧i=.int .i64 (k:Int)∧v=.int .u32 ((bset (inL (L.take k)) n:Nat):Int)∧wr=w) (fun _ i _=>L.length - (intOf i).toNat)
 case atStart =>
  refine ⟨0,Nat.zero_le _,rfl,?_,rfl⟩
  have:bset (inL (L.take 0)) n=0:=(bset_zero _ _).2 (by rw [List.any_eq_false]; intro x _; simp [inL])
  rw [this]
  rfl
 case round =>
  obtain ⟨k,hk,rfl,rfl,rfl⟩:=hrel
  by_cases hlt:k < L.length
  · obtain ⟨b,o,rfl,hbl,hc⟩:=HE.out k _ (List.getElem?_eq_getElem hlt)
    have c0:wr.cell? ⟨b,o+k,none⟩=some (.int .i64 L[k]):=by have:=hc; unfold IntAt at this; rwa [Nat.mul_one] at this
    obtain ⟨j,hj,hjl⟩:=HMEM.out L[k] (List.getElem_mem hlt)
    have hor:=or_add (inL (L.take k)) n j hn hjl
    have hnext:=inL_next L hlt
    rw [hj] at hnext c0
    rw [hnext] at hor
    have HOR:=Lib.hid hor
    generalize bset (inL (L.take k)) n=B at *
    clear hc hor hnext hj
    go_wp2_with fail
    refine (bitW_any j (by omega) _).mono ?_
    rintro e w1 ⟨rfl,rfl⟩
    go_wp2_with fail
    go_roundw
    case rel=>exact ⟨k+1,by omega,by go_num,by rw [← HOR.out],trivial⟩
    case measure=>simp [intOf]; omega
  · obtain rfl:k=L.length:=by omega
    have hfin:L.take L.length=L:=List.take_length
    rw [hfin]
    go_wp2_with fail
    go_ret
    exact ⟨rfl,Below.refl _ _⟩
def frmB (T:List Tr) (s:Int) (k:Nat):Bool:=decide ((trAt T (k:Int)).src=s)
def frmU (T:List Tr) (s:Int) (n:Nat):List Int:=((List.range n).filter (frmB T s)).map fun k:Nat=>(k:Int)
theorem frmU_len (T:List Tr) (s:Int) (n:Nat):(frmU T s n).length≤n:=by
 unfold frmU
 rw [List.length_map]
 exact Nat.le_trans (List.length_filter_le _ _) (by simp)
theorem frmU_succ (T:List Tr) (s:Int) (k:Nat):frmU T s (k+1)=if frmB T s k=true then frmU T s k ++ [(k:Int)] else frmU T s k:=by
 unfold frmU
 rw [List.range_succ,List.filter_append,List.map_append]
 cases h:frmB T s k <;> simp [h]

set_option maxHeartbeats 4000000 in
set_option maxRecDepth 100000 in
theorem from_any (s:Int) (vs vt:Value) (C:Ch) (w:World) (hT:TrsAt w vt C.trs) (hl:C.trs.length≤1000) :
 Calls Tryz.prog 84 #[.agg #[.int .i64 C.vars,vs,vt],.int .i64 s] w (KPost (frmU C.trs s C.trs.length) w):=by
 obtain ⟨i0,hi,hz0,hz1,hz2⟩:=info_parts Tryz.info3
 have HI:=Lib.hid hi
 have HZ0:=Lib.hid hz0
 have HZ1:=Lib.hid hz1
 have HZ2:=Lib.hid hz2
 clear hi hz0 hz1 hz2
 have HT:=Lib.hid hT
 obtain ⟨A,cap,rfl,hcap⟩:=RowsAt.slice hT
 have HKL:=Lib.hid (fun n=>frmU_len C.trs s n)
 clear hT
 go_enter Tryz.func84,Tryz.ntmps84
 go_wp2_with fail
 go_loopw [5,11] (fun v i wr=>∃ (k:Nat),k≤C.trs.length∧i=.int .i64 (k:Int)∧Below (w.alloc (chBox C.vars vs (.slice A C.trs.length cap))).heap.size (w.alloc (chBox C.vars vs (.slice A C.trs.length cap))) wr∧Hid (wr.ownsRow (w.heap.size+1) 3 1 v (frmU C.trs s k).length (intVals (frmU C.trs s k)))) (fun _ i _=>C.trs.length - (intOf i).toNat)
 case atStart=>exact ⟨0,Nat.zero_le _,rfl,Below.refl _ _,Lib.hid (World.ownsRow_nil _ _ _ _)⟩
 case round =>
  obtain ⟨k,hk,rfl,hb,hown⟩:=hrel
  obtain ⟨wo,rfl⟩:∃ wo:World,wo=wr:=⟨_,rfl⟩
  by_cases hlt:k < C.trs.length
  · obtain ⟨b,o,cap',wt,wa,hsl,_,hbl,hst,hhas⟩:=HT.out.at_ hlt
    injection hsl with e1 e2 e3
    subst e1
    obtain ⟨c0,c1,c2,c3,c4,c5⟩:=hst.below (below_boxed hb) hbl
    obtain ⟨tA,tcap,aA,acap,rfl,rfl⟩:=hhas.slices
    have HSU:=Lib.hid (frmU_succ C.trs s k)
    have HFB:Hid (frmB C.trs s k=decide ((trAt C.trs (k:Int)).src=s)):=Lib.hid rfl
    generalize trAt C.trs (k:Int)=T at *
    obtain ⟨src,e0,guard,tgts,inner,acts⟩:=T
    simp only at c0 c1 c2 c3 c4 c5
    generalize tgts.length=tl at *
    generalize acts.length=al at *
    have HBN:=Lib.hid (hb.alloc hb.size (.cells #[.int .i64 src,.int .i64 e0,.string guard,.slice tA tl tcap,.bool inner,.slice aA al acap] 66))
    have HON:=Lib.hid (own_below hown.out (below_box wo (.cells #[.int .i64 src,.int .i64 e0,.string guard,.slice tA tl tcap,.bool inner,.slice aA al acap] 66)))
    have hbs:w.heap.size+1≤wo.heap.size:=by have:=hb.size; simpa using this
    clear hst hhas e2 e3 hb hown
    by_cases hp:src=s
    · have hp2:(src == s)=true:=by simpa using hp
      have HF:Hid (frmU C.trs s (k+1)=frmU C.trs s k ++ [(k:Int)]):=Lib.hid (by rw [HSU.out,HFB.out,if_pos (by simpa using hp)])
      have hkl:=HKL.out k
      clear hp
      go_wp2_with (at_builtin; refine wpList_append_own_at _ rfl _ _ 36 rfl (w.heap.size+1) 3 i0 (.int .i64 0) 1 8 Tryz.underlying36 HI.out HZ0.out HZ1.out HZ2.out rfl (by decide) _ _ _ rfl (HON.out.alloc _) ⟨wo.heap.size+1,0,none⟩ 1 1 [.int .i64 (k:Int)] rfl rfl ?c1 ?c2 ?c3 ?c4 ?c5 ?_)
      case c2=>rfl
      case c3=>first | omega | (unfold maxLen; omega)
      case c4=>omega
      case c5=>first | omega | (simp; omega)
      intro v' w2 hown' hgrow _ _
      have HG:=Lib.hid (Below.grown (HBN.out.alloc HBN.out.size _) hgrow (by simp; omega) (fun g hg=>by have:=(HON.out.lt g hg).1; simpa using this))
      have HO':=Lib.hid hown'
      clear hown' hgrow
      go_wp2_with fail
      go_roundw
      case rel=>exact ⟨k+1,by omega,by go_num,HG.out,Lib.hid (by rw [HF.out,intVals_snoc]; simpa using HO'.out)⟩
      case measure=>simp [intOf]; omega
    · have hp2:(src == s)=false:=by simpa using hp
      have HF:Hid (frmU C.trs s (k+1)=frmU C.trs s k):=Lib.hid (by rw [HSU.out,HFB.out,if_neg (by simpa using hp)])
      clear hp
      go_wp2_with fail
      go_roundw
      case rel=>exact ⟨k+1,by omega,by go_num,HBN.out,Lib.hid (by rw [HF.out]; exact HON.out)⟩
      case measure=>simp [intOf]; omega
  · obtain rfl:k=C.trs.length:=by omega
    have HO:=Lib.hid hown.out
    have HB:=Lib.hid hb
    clear hb hown
    go_wp2_with fail
    go_ret
    exact ⟨below_boxed HB.out,_,rfl,own_lower HO.out (by omega)⟩
end Go.Proofs.YtmhkpjcdkjnlnaaGreatDoor
