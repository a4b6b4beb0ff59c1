/- The head of layer 14's statement (spinetlaw14.up): it holds. -/
import Derived.Test.YtmhkpjcdkjnlnaaGreatDoorFWWtb
import Derived.Test.YtmhkpjcdkjnlnaaGreatDoorFWShd
namespace Go.Proofs.YtmhkpjcdkjnlnaaGreatDoor
open Go.ChangeShapes Go.WideShapes Go.ChangeAt Go.RowKit
set_option linter.unusedVariables false

def chW:Ch:=⟨0,[⟨2,-1,[1],[],[]⟩,⟨1,0,[],[],[]⟩],[]⟩
def chE:Ch:=⟨0,[],[]⟩
theorem chkW:chk hasTB chW=.ok:=by kernel_rfl
theorem fewW:fewB chW=true:=by kernel_rfl
theorem chkE:chk hasTB chE=.large:=by kernel_rfl
theorem fewE:fewB chE=true:=by kernel_rfl
theorem defW:bset (defT chW.sts ((0:Nat):Int)) chW.sts.length=3:=by kernel_rfl
theorem upsW:bset (inL (ups chW.sts ((1:Nat):Int))) chW.sts.length=1:=by kernel_rfl
theorem kidsW2:bset (kidB chW.sts ((0:Nat):Int)) chW.sts.length=2:=by kernel_rfl
theorem eql_largeW (w:World):(binOp .eql 30 (.iface 82 (.int .i64 3)) (.iface 82 (.int .i64 3))).run Tryz.prog w=.ok (.bool true) w:=by kernel_rfl
abbrev twoCellsW (vi:Value):Array Value:=#[.int .i64 2,.int .i64 (-1),vi,.slice none 0 0,.slice none 0 0,.int .i64 1,.int .i64 0,.slice none 0 0,.slice none 0 0,.slice none 0 0]
abbrev stTwoW (vi:Value):Obj:=.cells (twoCellsW vi) 63
theorem up_hasW {W:World} {g0 g1:Nat} (h0:Blk W g0 3 #[.int .i64 1]) (h:Blk W g1 63 (twoCellsW (.slice (some ⟨g0,0,none⟩) 1 1))):ChHas W (.slice (some ⟨g1,0,none⟩) 2 2) (.slice none 0 0) chW:=by
 have hL:ListAt W (.slice (some ⟨g0,0,none⟩) 1 1) [1]:=one_list g0 h0
 refine ⟨⟨_,2,rfl,Nat.le_refl _,fun i x hx=>?_⟩,RowsAt.nil W⟩
 match i,hx with
 | 0,hx =>
  simp [chW] at hx
  subst hx
  exact ⟨g1,0,rfl,h.lt,_,_,_,⟨h.cell 0,h.cell 1,h.cell 2,h.cell 3,h.cell 4⟩,hL,RowsAt.nil W,RowsAt.nil W⟩
 | 1,hx =>
  simp [chW] at hx
  subst hx
  exact ⟨g1,0,rfl,h.lt,_,_,_,⟨h.cell 5,h.cell 6,h.cell 7,h.cell 8,h.cell 9⟩,RowsAt.nil W,RowsAt.nil W,RowsAt.nil W⟩
 | i+2,hx=>simp [chW] at hx
set_option maxHeartbeats 8000000 in
set_option maxRecDepth 100000 in
theorem upW_any (w:World) (hL:Laid w):Calls Tryz.prog 16 #[] w fun e w'=>e=.returned (.bool true)∧Below w.heap.size w w':=by
 have hnn:=neq_nil_nil
 have HL:=Lib.hid hL
 clear hL
 have hk0:=(Blk.new w 3 #[.int .i64 1]).alloc (stTwoW (.slice (some ⟨w.heap.size,0,none⟩) 1 1))
 have hk1:=Blk.new_at (w.alloc (.cells #[.int .i64 1] 3)) 63 (twoCellsW (.slice (some ⟨w.heap.size,0,none⟩) 1 1)) (w.heap.size+1) (by simp)
 have HB0:=Lib.hid (((Below.refl w.heap.size w).alloc (Nat.le_refl _) (.cells #[.int .i64 1] 3)).alloc (by simp) (stTwoW (.slice (some ⟨w.heap.size,0,none⟩) 1 1)))
 have HC:=Lib.hid (up_hasW hk0 hk1)
 have HD:Hid (∀ (W:World) (p:Nat),WTbl W p chW→Calls Tryz.prog 27 #[.pointer (some ⟨p,0,none⟩),.int .i64 0] W fun e w'=>e=.returned (.int .u32 3)∧Below W.heap.size W w'):=Lib.hid fun W p h=>by
  have:=wdef_any h (by decide) 0 (by decide)
  rw [defW] at this
  exact this
 have HU:Hid (∀ (W:World) (p:Nat),WTbl W p chW→Calls Tryz.prog 22 #[.pointer (some ⟨p,0,none⟩),.int .i64 1] W fun e w'=>e=.returned (.int .u32 1)∧Below W.heap.size W w'):=Lib.hid fun W p h=>by
  have:=wup_any h (by decide) 1 (by decide)
  rw [upsW] at this
  exact this
 have HK:Hid (∀ (W:World) (p:Nat),WTbl W p chW→Calls Tryz.prog 25 #[.pointer (some ⟨p,0,none⟩),.int .i64 0] W fun e w'=>e=.returned (.int .u32 2)∧Below W.heap.size W w'):=Lib.hid fun W p h=>by
  have:=wkids_any h (by decide) 0 (by decide)
  rw [kidsW2] at this
  exact this
 clear hk0 hk1
 go_enter Tryz.func16,Tryz.ntmps16
 go_wp2_with fail
 refine (wnew_any _ _ chW _ (HL.out.after HB0.out) HC.out fewW).mono ?_
 intro e w1 hp
 obtain ⟨hb1,p,rfl,-,hT⟩:=wnpost_yes hp chkW
 have HB1:=Lib.hid (HB0.out.trans (hb1.mono HB0.out.size))
 have HT1:=Lib.hid hT
 have hno:=fun W=>nilB_no p W
 clear hb1 hT hp HC HB0
 go_wp2_with fail
 refine (wnew_any _ _ chE _ (HL.out.after HB1.out) ⟨RowsAt.nil _,RowsAt.nil _⟩ fewE).mono ?_
 intro e w2 hp
 have HE:Hid (Below w1.heap.size w1 w2∧e=.returned (.tuple #[.pointer none,.iface 82 (.int .i64 3)])):=Lib.hid (by
  unfold WNPost at hp
  rw [chkE] at hp
  exact hp)
 obtain ⟨hb2,rfl⟩:=HE.out
 have HB2:=Lib.hid (HB1.out.trans (hb2.mono HB1.out.size))
 have HT2:=Lib.hid (HT1.out.below hb2)
 have hel:=eql_largeW
 clear hb2 hp HE HB1 HT1
 go_wp2_with fail
 refine (HD.out _ p HT2.out).mono ?_
 rintro e w3 ⟨rfl,hb3⟩
 have HB3:=Lib.hid (HB2.out.trans (hb3.mono HB2.out.size))
 have HT3:=Lib.hid (HT2.out.below hb3)
 clear hb3 HB2 HT2
 go_wp2_with fail
 refine (HU.out _ p HT3.out).mono ?_
 rintro e w4 ⟨rfl,hb4⟩
 have HB4:=Lib.hid (HB3.out.trans (hb4.mono HB3.out.size))
 have HT4:=Lib.hid (HT3.out.below hb4)
 clear hb4 HB3 HT3
 go_wp2_with fail
 refine (HK.out _ p HT4.out).mono ?_
 rintro e w5 ⟨rfl,hb5⟩
 have HB5:=Lib.hid (HB4.out.trans (hb5.mono HB4.out.size))
 clear hb5
 go_wp2_with fail
 go_ret
 exact ⟨rfl,HB5.out⟩
end Go.Proofs.YtmhkpjcdkjnlnaaGreatDoor
