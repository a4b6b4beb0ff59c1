/- How a session stands in memory on its way through rounds; the contracts of isGoing and takeOut. -/
import Derived.Test.YtmhkpjcdkjnlnaaGreatDoorFUIdn
import Derived.Test.YtmhkpjcdkjnlnaaGreatDoorFUUpure
import Derived.Test.YtmhkpjcdkjnlnaaGreatDoorFUSwo
import Derived.Test.YtmhkpjcdkjnlnaaGreatDoorFUIbf
namespace Go.Proofs.YtmhkpjcdkjnlnaaGreatDoor
open Go.ChangeShapes Go.WideShapes Go.ChangeAt Go.RowKit
set_option linter.unusedVariables false

theorem rowAt_grownIn {ρ:Type} {w w':World} {B B':Nat} {e t:TypeId} {s':Nat} {cells:ρ→List Value} {v u:Value} {L:List ρ} {K:List Int} (h:RowAt B w e s' cells v L) (hu:InAt w B' t u K) (het:e ≠ t) (hg:w.grownBy w' u.ownBlock):RowAt B w' e s' cells v L:=by
 rcases h with h | ⟨g,cap,cur,h1,h2,h3,h4,h5⟩
 · exact .inl h
 · refine .inr ⟨g,cap,cur,h1,h2,h3.grown hg ?_,h4,h5⟩
   exact fun hc=>hu.else_ h3 (Ne.symm het) hc.symm
theorem own_grownIn {w w':World} {B B':Nat} {e t:TypeId} {s n:Nat} {v u:Value} {xs:List Value} {K:List Int} (h:w.ownsRow B e s v n xs) (hu:InAt w B' t u K) (het:e ≠ t) (hg:w.grownBy w' u.ownBlock):w'.ownsRow B e s v n xs:=by
 refine h.kept hg ?_
 rcases hu with ⟨rfl,_⟩ | ⟨g,o,cap,cur,rfl,hb,hgg,_⟩
 · cases hv:v.ownBlock with
   | none=>exact .inl rfl
   | some k=>exact .inr (by simp [Value.ownBlock])
 · exact .inr (fun hc=>own_else h hgg het hc)
structure MwAt (B:Nat) (w:World) (vh ve vi vo:Value) (X:Se):Prop where
 hist:OwnHist B w vh X.hist
 env:OwnEnv B w ve X.env
 ins:InAt w B 3 vi X.ins
 out:OwnOuts B w vo X.out
section
variable {B:Nat} {w w':World} {vh ve vi vo:Value} {X:Se}
theorem MwAt.of (h:RwAt B w vh ve vi vo X):MwAt B w vh ve vi vo X:=⟨h.hist,h.env,InAt.of_own h.ins,h.out⟩
theorem MwAt.below (h:MwAt B w vh ve vi vo X) (hb:Below w.heap.size w w'):MwAt B w' vh ve vi vo X:=⟨h.hist.below hb,h.env.below hb,h.ins.below hb,h.out.below hb⟩
theorem MwAt.apart {g:Nat} {t:TypeId} {cs:Array Value} (h:MwAt B w vh ve vi vo X) (hg:Blk w g t cs) (h1:33 ≠ t) (h2:2 ≠ t) (h3:3 ≠ t) (h4:77 ≠ t) (j:Nat) (u:Value):MwAt B (w.setCell ⟨g,j,none⟩ u) vh ve vi vo X :=
 ⟨⟨RowAt.apart h.hist.1 hg h1 j u,h.hist.2⟩,RowAt.apart h.env hg h2 j u,h.ins.apart hg h3 j u,own_apart h.out hg h4 j u⟩
theorem MwAt.growI {vi':Value} {L:List Int} (h:MwAt B w vh ve vi vo X) (hg:w.grownBy w' vi.ownBlock) (ho:InAt w' B 3 vi' L):MwAt B w' vh ve vi' vo ⟨X.a,X.hist,X.env,L,X.st,X.out⟩ :=
 ⟨⟨rowAt_grownIn h.hist.1 h.ins (by decide) hg,h.hist.2⟩,rowAt_grownIn h.env h.ins (by decide) hg,ho,own_grownIn h.out h.ins (by decide) hg⟩
theorem MwAt.growO {vo':Value} {L:List Ou} (h:MwAt B w vh ve vi vo X) (hg:w.grownBy w' vo.ownBlock) (ho:OwnOuts B w' vo' L):MwAt B w' vh ve vi vo' ⟨X.a,X.hist,X.env,X.ins,X.st,L⟩ :=
 ⟨⟨rowAt_grown h.hist.1 h.out (by decide) hg,h.hist.2⟩,rowAt_grown h.env h.out (by decide) hg,h.ins.kept hg (by
  cases hv:vi.ownBlock with
  | none=>exact .inl rfl
  | some k =>
   refine .inr fun hc=>?_
   have hc:vo.ownBlock=some k:=by rw [← hc]
   rcases h.ins with ⟨rfl,_⟩ | ⟨g,o,cap,cur,rfl,hb,hgg,_⟩
   · cases hv
   · injection hv with hv
     subst hv
     exact own_else h.out hgg (by decide) hc),ho⟩
end
abbrev msCs (t:Nat) (C:Ch) (vh ve vi vo:Value) (X:Se) (f:Nat):Array Value :=
 #[.pointer (some ⟨t,0,none⟩),.int .u32 ((bset X.a C.sts.length:Nat):Int),vh,ve,vi,.int .i64 X.st,.int .i64 (f:Int),vo]
structure MsAt (w0:World) (t g:Nat) (C:Ch) (w:World) (vh ve vi vo:Value) (X:Se) (f:Nat):Prop where
 below:Below w0.heap.size w0 w
 ge:w0.heap.size≤g
 blk:Blk w g 72 (msCs t C vh ve vi vo X f)
 rows:MwAt w0.heap.size w vh ve vi vo X
def MPost (w0:World) (t g:Nat) (C:Ch) (Y:Se) (f:Nat) (e:Ending) (w':World):Prop:=e=.returned (.tuple #[])∧∃ vh ve vi vo,MsAt w0 t g C w' vh ve vi vo Y f
section
variable {w0:World} {t g:Nat} {C:Ch} {w w':World} {vh ve vi vo:Value} {X:Se} {f:Nat}
theorem MsAt.lt (h:MsAt w0 t g C w vh ve vi vo X f):w0.heap.size≤w.heap.size:=h.below.size
theorem MsAt.after (h:MsAt w0 t g C w vh ve vi vo X f) (hb:Below w.heap.size w w'):MsAt w0 t g C w' vh ve vi vo X f :=
 ⟨h.below.trans (hb.mono h.lt),h.ge,h.blk.below hb h.blk.lt,h.rows.below hb⟩
theorem MsAt.drew (h:MsAt w0 t g C w vh ve vi vo X f):MsAt w0 t g C w.drew vh ve vi vo X f:=h.after (Below.refl _ _).drew
theorem MsAt.cells (h:MsAt w0 t g C w vh ve vi vo X f) :
 w.cell? ⟨g,0,none⟩=some (.pointer (some ⟨t,0,none⟩))∧w.cell? ⟨g,1,none⟩=some (.int .u32 ((bset X.a C.sts.length:Nat):Int))∧w.cell? ⟨g,2,none⟩=some vh∧w.cell? ⟨g,3,none⟩=some ve∧w.cell? ⟨g,4,none⟩=some vi ∧
 w.cell? ⟨g,5,none⟩=some (.int .i64 X.st)∧w.cell? ⟨g,6,none⟩=some (.int .i64 (f:Int))∧w.cell? ⟨g,7,none⟩=some vo :=
 ⟨h.blk.cell 0,h.blk.cell 1,h.blk.cell 2,h.blk.cell 3,h.blk.cell 4,h.blk.cell 5,h.blk.cell 6,h.blk.cell 7⟩
theorem MsAt.froz (h:MsAt w0 t g C w vh ve vi vo X f) :
 w.frozen? ⟨g,1,none⟩=false∧w.frozen? ⟨g,2,none⟩=false∧w.frozen? ⟨g,3,none⟩=false∧w.frozen? ⟨g,4,none⟩=false∧w.frozen? ⟨g,5,none⟩=false∧w.frozen? ⟨g,6,none⟩=false∧w.frozen? ⟨g,7,none⟩=false :=
 ⟨h.blk.frozen 1,h.blk.frozen 2,h.blk.frozen 3,h.blk.frozen 4,h.blk.frozen 5,h.blk.frozen 6,h.blk.frozen 7⟩
theorem MsAt.set (h:MsAt w0 t g C w vh ve vi vo X f) {vh' ve' vi' vo':Value} {X':Se} {f':Nat} (j:Nat) (u:Value) (hcs:(msCs t C vh ve vi vo X f).setIfInBounds j u=msCs t C vh' ve' vi' vo' X' f') (hr:MwAt w0.heap.size w vh' ve' vi' vo' X'):MsAt w0 t g C (w.setCell ⟨g,j,none⟩ u) vh' ve' vi' vo' X' f' :=
 ⟨h.below.setCell h.ge u,h.ge,by rw [← hcs]; exact h.blk.set_ j u,hr.apart h.blk (by decide) (by decide) (by decide) (by decide) j u⟩
theorem MsAt.putSt (h:MsAt w0 t g C w vh ve vi vo X f) (n:Int):MsAt w0 t g C (w.setCell ⟨g,5,none⟩ (.int .i64 n)) vh ve vi vo (X.putSt n) f :=
 h.set 5 _ rfl ⟨h.rows.hist,h.rows.env,h.rows.ins,h.rows.out⟩
theorem MsAt.putF (h:MsAt w0 t g C w vh ve vi vo X f) (n:Nat):MsAt w0 t g C (w.setCell ⟨g,6,none⟩ (.int .i64 (n:Int))) vh ve vi vo X n :=
 h.set 6 _ rfl h.rows
theorem MsAt.putI {vi':Value} {L:List Int} (h:MsAt w0 t g C w vh ve vi vo X f) (hi:InAt w w0.heap.size 3 vi' L):MsAt w0 t g C (w.setCell ⟨g,4,none⟩ vi') vh ve vi' vo ⟨X.a,X.hist,X.env,L,X.st,X.out⟩ f :=
 h.set 4 _ rfl ⟨h.rows.hist,h.rows.env,hi,h.rows.out⟩
theorem MsAt.growI {vi':Value} {L:List Int} (h:MsAt w0 t g C w vh ve vi vo X f) (hg:w.grownBy w' vi.ownBlock) (ho:InAt w' w0.heap.size 3 vi' L):MsAt w0 t g C (w'.setCell ⟨g,4,none⟩ vi') vh ve vi' vo ⟨X.a,X.hist,X.env,L,X.st,X.out⟩ f:=by
 have hb':Blk w' g 72 (msCs t C vh ve vi vo X f):=h.blk.grown hg (fun hc=>h.rows.ins.else_ h.blk (by decide) hc.symm)
 have hm:=h.rows.growI hg ho
 exact ⟨(h.below.grown hg h.lt (fun k hk=>(h.rows.ins.lt k hk).1)).setCell h.ge _,h.ge,hb'.set_ 4 vi',hm.apart hb' (by decide) (by decide) (by decide) (by decide) 4 vi'⟩
theorem MsAt.growI0 {vi':Value} {L:List Int} (h:MsAt w0 t g C w vh ve vi vo X f) (hg:w.grownBy w' vi.ownBlock) (ho:InAt w' w0.heap.size 3 vi' L):Blk w' g 72 (msCs t C vh ve vi vo X f):=h.blk.grown hg (fun hc=>h.rows.ins.else_ h.blk (by decide) hc.symm)
theorem MsAt.growO {vo':Value} {L:List Ou} (h:MsAt w0 t g C w vh ve vi vo X f) (hg:w.grownBy w' vo.ownBlock) (ho:OwnOuts w0.heap.size w' vo' L):MsAt w0 t g C (w'.setCell ⟨g,7,none⟩ vo') vh ve vi vo' ⟨X.a,X.hist,X.env,X.ins,X.st,L⟩ f:=by
 have hb':Blk w' g 72 (msCs t C vh ve vi vo X f):=h.blk.grown hg (fun hc=>own_else h.rows.out h.blk (by decide) hc.symm)
 have hm:=h.rows.growO hg ho
 exact ⟨(h.below.grown hg h.lt (fun k hk=>(h.rows.out.lt k hk).1)).setCell h.ge _,h.ge,hb'.set_ 7 vo',hm.apart hb' (by decide) (by decide) (by decide) (by decide) 7 vo'⟩
theorem MsAt.growO0 {vo':Value} {L:List Ou} (h:MsAt w0 t g C w vh ve vi vo X f) (hg:w.grownBy w' vo.ownBlock):Blk w' g 72 (msCs t C vh ve vi vo X f):=h.blk.grown hg (fun hc=>own_else h.rows.out h.blk (by decide) hc.symm)
theorem blk_neT {b b':Nat} {t t':TypeId} {cs cs':Array Value} (h:Blk w b t cs) (h':Blk w b' t' cs') (ht:t ≠ t'):b ≠ b':=fun hc=>by
 subst hc
 unfold Blk at h h'
 rw [h] at h'
 injection h' with h1
 injection h1 with h2 h3
 exact ht h3
theorem MsAt.set_else {b:Nat} {ty:TypeId} {cs:Array Value} (h:MsAt w0 t g C w vh ve vi vo X f) (hb:Blk w b ty cs) (hB:w0.heap.size≤b) (h0:ty ≠ 72) (h1:33 ≠ ty) (h2:2 ≠ ty) (h3:3 ≠ ty) (h4:77 ≠ ty) (j:Nat) (u:Value):MsAt w0 t g C (w.setCell ⟨b,j,none⟩ u) vh ve vi vo X f :=
 ⟨h.below.setCell hB u,h.ge,h.blk.set_ne (Ne.symm (blk_neT hb h.blk h0)) j u,h.rows.apart hb h1 h2 h3 h4 j u⟩
abbrev set5 (w:World) (b k:Nat) (a0 a1 a2 a3 a4:Value):World:=((((w.setCell ⟨b,k,none⟩ a0).setCell ⟨b,k+1,none⟩ a1).setCell ⟨b,k+2,none⟩ a2).setCell ⟨b,k+3,none⟩ a3).setCell ⟨b,k+4,none⟩ a4
theorem MsAt.run_else {b:Nat} {cs:Array Value} (h:MsAt w0 t g C w vh ve vi vo X f) (hb:Blk w b 38 cs) (hB:w0.heap.size≤b) (a0 a1 a2 a3 a4:Value):MsAt w0 t g C (set5 w b 0 a0 a1 a2 a3 a4) vh ve vi vo X f:=by
 have s1:=h.set_else hb hB (by decide) (by decide) (by decide) (by decide) (by decide) 0 a0
 have k1:=hb.set_ 0 a0
 have s2:=s1.set_else k1 hB (by decide) (by decide) (by decide) (by decide) (by decide) 1 a1
 have k2:=k1.set_ 1 a1
 have s3:=s2.set_else k2 hB (by decide) (by decide) (by decide) (by decide) (by decide) 2 a2
 have k3:=k2.set_ 2 a2
 have s4:=s3.set_else k3 hB (by decide) (by decide) (by decide) (by decide) (by decide) 3 a3
 exact s4.set_else (k3.set_ 3 a3) hB (by decide) (by decide) (by decide) (by decide) (by decide) 4 a4
theorem RwAt.run_else {B b k:Nat} {ty:TypeId} {cs:Array Value} (h:RwAt B w vh ve vi vo X) (hb:Blk w b ty cs) (h1:33 ≠ ty) (h2:2 ≠ ty) (h3:3 ≠ ty) (h4:77 ≠ ty) (a0 a1 a2 a3 a4:Value):RwAt B (set5 w b k a0 a1 a2 a3 a4) vh ve vi vo X:=by
 have s1:=h.apart hb h1 h2 h3 h4 k a0
 have k1:=hb.set_ k a0
 have s2:=s1.apart k1 h1 h2 h3 h4 (k+1) a1
 have k2:=k1.set_ (k+1) a1
 have s3:=s2.apart k2 h1 h2 h3 h4 (k+2) a2
 have k3:=k2.set_ (k+2) a2
 have s4:=s3.apart k3 h1 h2 h3 h4 (k+3) a3
 exact s4.apart (k3.set_ (k+3) a3) h1 h2 h3 h4 (k+4) a4
theorem own_run_else {B b k:Nat} {e ty:TypeId} {s n:Nat} {v:Value} {xs:List Value} {cs:Array Value} (h:w.ownsRow B e s v n xs) (hb:Blk w b ty cs) (h1:e ≠ ty) (a0 a1 a2 a3 a4:Value):(set5 w b k a0 a1 a2 a3 a4).ownsRow B e s v n xs:=by
 have s1:=own_apart h hb h1 k a0
 have k1:=hb.set_ k a0
 have s2:=own_apart s1 k1 h1 (k+1) a1
 have k2:=k1.set_ (k+1) a1
 have s3:=own_apart s2 k2 h1 (k+2) a2
 have k3:=k2.set_ (k+2) a2
 have s4:=own_apart s3 k3 h1 (k+3) a3
 exact own_apart s4 (k3.set_ (k+3) a3) h1 (k+4) a4
theorem MsAt.putRun {vh' ve' vi' vo':Value} {Y:Se} (h:MsAt w0 t g C w vh ve vi vo X f) (hr:RwAt w0.heap.size w vh' ve' vi' vo' Y) :
 MsAt w0 t g C (set5 w g 1 (.int .u32 ((bset Y.a C.sts.length:Nat):Int)) vh' ve' vi' (.int .i64 Y.st)) vh' ve' vi' vo ⟨Y.a,Y.hist,Y.env,Y.ins,Y.st,X.out⟩ f:=by
 have hr':=hr.run_else (k:=1) h.blk (by decide) (by decide) (by decide) (by decide) (.int .u32 ((bset Y.a C.sts.length:Nat):Int)) vh' ve' vi' (.int .i64 Y.st)
 have ho:=own_run_else (k:=1) h.rows.out h.blk (by decide) (.int .u32 ((bset Y.a C.sts.length:Nat):Int)) vh' ve' vi' (.int .i64 Y.st)
 exact ⟨((((h.below.setCell (p:=⟨g,1,none⟩) h.ge _).setCell (p:=⟨g,2,none⟩) h.ge _).setCell (p:=⟨g,3,none⟩) h.ge _).setCell (p:=⟨g,4,none⟩) h.ge _).setCell (p:=⟨g,5,none⟩) h.ge _,h.ge,
  ((((h.blk.set_ 1 _).set_ 2 _).set_ 3 _).set_ 4 _).set_ 5 _,⟨hr'.hist,hr'.env,InAt.of_own hr'.ins,ho⟩⟩
set_option maxHeartbeats 4000000 in
set_option maxRecDepth 100000 in
theorem isGoing_any (h:MsAt w0 t g C w vh ve vi vo X f):Calls Tryz.prog 41 #[.pointer (some ⟨g,0,none⟩)] w fun e w'=>e=.returned (.bool (decide (X.st=1)))∧Below w.heap.size w w':=by
 obtain ⟨x0,x1,x2,x3,x4,x5,x6,x7⟩:=h.cells
 clear h
 generalize X.st=s at *
 by_cases h1:s=1
 · subst h1
   go_enter Tryz.func41,Tryz.ntmps41
   go_wp2_with fail
   go_ret
   exact ⟨rfl,Below.refl _ _⟩
 · have h2:((s:Int) == 1)=false:=beq_false_of_ne h1
   have h3:decide (s=1)=false:=decide_eq_false h1
   rw [h3]
   clear h3
   go_enter Tryz.func41,Tryz.ntmps41
   go_wp2_with fail
   go_ret
   exact ⟨rfl,Below.refl _ _⟩
set_option maxHeartbeats 4000000 in
set_option maxRecDepth 100000 in
theorem takeOut_any {x:Int} {L:List Int} (h:MsAt w0 t g C w vh ve vi vo X f) (hx:X.ins=x :: L) :
 Calls Tryz.prog 70 #[.pointer (some ⟨g,0,none⟩)] w fun e w'=>e=.returned (.int .i64 x)∧∃ vi',MsAt w0 t g C w' vh ve vi' vo X.dropI f:=by
 have hdr:X.dropI=⟨X.a,X.hist,X.env,L,X.st,X.out⟩:=by
  unfold Se.dropI
  rw [hx]
  rfl
 have hin:=h.rows.ins
 rw [hx] at hin
 rcases hin with ⟨_,h0⟩ | ⟨gg,o,cap,cur,hv,hB,hg,hn,hs,ht⟩
 · cases h0
 have hin:InAt w w0.heap.size 3 (.slice (some ⟨gg,o,none⟩) (L.length+1) cap) (x :: L):=.inr ⟨gg,o,cap,cur,rfl,hB,hg,hn,hs,ht⟩
 obtain ⟨c0,hc1,htl⟩:=hin.tail
 rw [List.length_cons] at hv
 subst hv
 rw [hdr]
 have HS:=Lib.hid h
 obtain ⟨x0,x1,x2,x3,x4,x5,x6,x7⟩:=h.cells
 obtain ⟨f1,f2,f3,f4,f5,f6,f7⟩:=h.froz
 have HT:=Lib.hid htl
 clear h hx hdr hin htl hg hn hs ht hB x0 x1 x2 x3 x5 x6 x7 f1 f2 f3 f5 f6 f7
 obtain ⟨q,hq⟩:∃ q,L.length=q:=⟨_,rfl⟩
 rw [hq] at HS HT x4
 by_cases h1:cap=1
 · subst h1
   rw [if_pos rfl] at HT
   go_enter Tryz.func70,Tryz.ntmps70
   go_wp2_with fail
   go_ret
   exact ⟨rfl,_,HS.out.putI HT.out⟩
 · rw [if_neg h1] at HT
   obtain ⟨c,rfl⟩:∃ c,cap=c+2:=⟨cap - 2,by omega⟩
   go_enter Tryz.func70,Tryz.ntmps70
   go_wp2_with fail
   go_ret
   exact ⟨rfl,_,HS.out.putI HT.out⟩
end

theorem entersTy:Enters 192:=enters_of Tryz.func192 (by kernel_rfl) rfl
section
variable {w0:World} {M:Nat→Option Obj} {t g:Nat} {vs vt:Value} {C:Ch} {w:World} {vh ve vi vo:Value} {X:Se}
set_option maxHeartbeats 4000000 in
set_option maxRecDepth 100000 in
theorem nowhere_any (hC:ChHas w0 vs vt C) (hS:SeAt w0 M t g vs vt C w vh ve vi vo X) (c:Nat) (cs:Array Value) (ty:TypeId) (hc:Blk w c ty cs) (h0:cs[0]?=some (.pointer (some ⟨g,0,none⟩))) (k:Nat) (hk:k < C.trs.length) :
 Calls Tryz.prog 192 #[.int .i64 (k:Int),.pointer (some ⟨c,0,none⟩)] w fun e w'=>e=.returned (.bool false)∧w=w':=by
 obtain ⟨sA,scap,tA,tcap,rfl,rfl⟩:=hC.slices
 obtain ⟨⟨x0,x1,x2,x3,x4⟩,-⟩:=hS.cells
 have y0:w.cell? ⟨c,0,none⟩=some (.pointer (some ⟨g,0,none⟩)):=(hc.cell 0).trans h0
 have d0:decide ((k:Int) < 0)=false:=by simp
 have d1:decide ((C.trs.length:Int)≤(k:Int))=false:=decide_eq_false (by omega)
 clear hC hS hc h0
 go_enter Tryz.func192,Tryz.ntmps192
 go_wp2_with fail
 go_ret
 exact ⟨ret_bool (decide_eq_false (by omega)),rfl⟩
set_option maxHeartbeats 4000000 in
set_option maxRecDepth 100000 in
theorem idxI_none (F:Nat) (caps:Array Value) (v:Value) (B:Nat) (l:List Int) (w:World) (hE:Enters F) (hp:∀ (W:World) (x:Int),x ∈ l→Below w.heap.size w W→Calls Tryz.prog F (#[.int .i64 x] ++ caps) W fun e w'=>e=.returned (.bool false)∧W=w') (hv:w.ownsRow B 3 1 v l.length (intVals l)) (hl:l.length≤1000) :
 Calls Tryz.prog 210 #[v,.func (.func F) #[] caps] w fun e w'=>e=.returned (.int .i64 (-1))∧w=w':=by
 have HP:=Lib.hid (fun x hx=>hp w x hx (Below.refl _ _))
 have HLA:=Lib.hid (list_of_own hv)
 obtain ⟨lA,lcap,rfl⟩:=own_slice hv
 unfold Enters at hE
 clear hp hv
 go_enter Tryz.func210,Tryz.ntmps210
 go_wp2_with fail
 go_loopw [8] (fun i wr=>∃ k:Nat,k≤l.length∧i=.int .i64 (k:Int)∧wr=w) (fun i _=>l.length - (intOf i).toNat)
 case atStart=>exact ⟨0,Nat.zero_le _,rfl,rfl⟩
 case round =>
  obtain ⟨k,hk,rfl,rfl⟩:=hrel
  by_cases hlt:k < l.length
  · obtain ⟨_,_,q1,_,q3⟩:=HLA.out
    injection q1 with e1 e2 e3
    subst e1
    obtain ⟨b,o,rfl,hbl,hc⟩:=q3 k _ (List.getElem?_eq_getElem hlt)
    have c0:wr.cell? ⟨b,o+k,none⟩=some (.int .i64 l[k]):=by have:=hc; unfold IntAt at this; rwa [Nat.mul_one] at this
    have HCALL:=Lib.hid (HP.out l[k] (List.getElem_mem hlt))
    generalize l[k]=x at *
    clear hc q3 e2 e3
    go_wp2_with fail
    refine HCALL.out.mono ?_
    rintro e w1 ⟨rfl,rfl⟩
    go_wp2_with fail
    go_roundw
    case rel=>exact ⟨k+1,by omega,by go_num,trivial⟩
    case measure=>simp [intOf]; omega
  · obtain rfl:k=l.length:=by omega
    go_wp2_with fail
    go_ret
    exact ⟨rfl,rfl⟩
set_option maxHeartbeats 4000000 in
set_option maxRecDepth 100000 in
theorem delI_none (F:Nat) (caps:Array Value) (v:Value) (B:Nat) (l:List Int) (w:World) (hE:Enters F) (hp:∀ (W:World) (x:Int),x ∈ l→Below w.heap.size w W→Calls Tryz.prog F (#[.int .i64 x] ++ caps) W fun e w'=>e=.returned (.bool false)∧W=w') (hv:w.ownsRow B 3 1 v l.length (intVals l)) (hl:l.length≤1000) :
 Calls Tryz.prog 193 #[v,.func (.func F) #[] caps] w fun e w'=>e=.returned v∧w=w':=by
 have HI:=Lib.hid (idxI_none F caps v B l w hE hp hv hl)
 obtain ⟨lA,lcap,rfl⟩:=own_slice hv
 clear hp hv hE
 go_enter Tryz.func193,Tryz.ntmps193
 go_wp2_with fail
 refine HI.out.mono ?_
 rintro e w1 ⟨rfl,rfl⟩
 go_wp2_with fail
 go_ret
 exact ⟨rfl,rfl⟩
set_option maxHeartbeats 4000000 in
set_option maxRecDepth 100000 in
theorem thatAreThere_any (hF:Fx w0 t vs vt C) (hS:SeAt w0 M t g vs vt C w vh ve vi vo X) (vl:Value) (l:List Int) (hv:ListAt w vl l) (hll:l.length≤1000) (hin:∀ i ∈ l,isTr C.trs i=true) :
 Calls Tryz.prog 168 #[.pointer (some ⟨g,0,none⟩),vl] w fun e w'=>∃ v',e=.returned v'∧Below w.heap.size w w'∧w'.ownsRow w.heap.size 3 1 v' l.length (intVals l):=by
 have HCL:=Lib.hid (fun (W:World) (h:Below w.heap.size w W)=>cloneI_any vl l W (hv.below h) (by omega))
 have hb0:=below_box w (.cells #[.pointer (some ⟨g,0,none⟩)] 115)
 have HB0:=Lib.hid hb0
 have HBX:=Lib.hid (Blk.new w 115 #[.pointer (some ⟨g,0,none⟩)])
 have HNW:=Lib.hid (fun (W:World) (h:Below (w.alloc (.cells #[.pointer (some ⟨g,0,none⟩)] 115)).heap.size (w.alloc (.cells #[.pointer (some ⟨g,0,none⟩)] 115)) W) (x:Int) (hx:x ∈ l)=>(by
  obtain ⟨k,rfl,hk⟩:=isTr_nat (hin x hx)
  exact nowhere_any hF.has ((hS.after hb0).after h) w.heap.size _ _ ((Blk.new w 115 #[.pointer (some ⟨g,0,none⟩)]).below h (by simp)) rfl k hk:Calls Tryz.prog 192 (#[.int .i64 x] ++ #[.pointer (some ⟨w.heap.size,0,none⟩)]) W fun e w'=>e=.returned (.bool false)∧W=w'))
 obtain ⟨lA,lcap,rfl,-⟩:=RowsAt.slice hv
 clear hF hS hv hin hb0
 go_enter Tryz.func168,Tryz.ntmps168
 go_wp2_with fail
 refine (HCL.out _ HB0.out).mono ?_
 rintro e w2 ⟨hb2,v2,rfl,hown2⟩
 obtain ⟨A2,cap2,rfl⟩:=own_slice hown2
 have HB2:=Lib.hid (HB0.out.trans (hb2.mono HB0.out.size))
 have HO2:=Lib.hid (own_lower hown2 HB0.out.size)
 have HDL:=Lib.hid (delI_none 192 #[.pointer (some ⟨w.heap.size,0,none⟩)] _ _ l w2 entersTy (fun W x hx h=>HNW.out W (hb2.trans (h.mono hb2.size)) x hx) hown2 hll)
 clear hb2 hown2
 go_wp2_with fail
 refine HDL.out.mono ?_
 rintro e w3 ⟨rfl,rfl⟩
 go_wp2_with fail
 go_ret
 exact ⟨_,rfl,HB2.out,HO2.out⟩
end

theorem own_stays {w w2:World} {B:Nat} {e:TypeId} {s n:Nat} {v:Value} {xs:List Value} (h:w.ownsRow B e s v n xs) (hb:∀ b,v.ownBlock=some b→w2.heap[b]?=w.heap[b]?):w2.ownsRow B e s v n xs:=by
 refine ⟨h.1,?_⟩
 rcases h.2 with h0 | ⟨g,cap,cur,rfl,h2,h3,h4⟩
 · exact .inl h0
 · exact .inr ⟨g,cap,cur,rfl,h2,(hb g rfl).trans h3,h4⟩
theorem RowAt.blockLt {ρ:Type} {B:Nat} {w:World} {e n:Nat} {cells:ρ→List Value} {v:Value} {L:List ρ} (h:RowAt B w e n cells v L) {k:Nat} (hk:v.ownBlock=some k):k < w.heap.size:=by
 rcases h with ⟨rfl,_⟩ | ⟨g',cap,cur,rfl,_,h3,_⟩
 · cases hk
 · injection hk with hk
   subst hk
   exact h3.lt
section
variable {w0:World} {t g:Nat} {vs vt:Value} {C:Ch} {w w' w1:World} {vh ve vi vo:Value} {X:Se}
theorem SeAt.keepRow (h:SeAt w0 (fun _=>none) t g vs vt C w vh ve vi vo X) (hb:Below w.heap.size w w') {e:TypeId} {s n:Nat} {v:Value} {xs:List Value} (ho:w'.ownsRow w.heap.size e s v n xs) :
 SeAt w0 (fun k=>if v.ownBlock=some k then w'.heap[k]? else none) t g vs vt C w' vh ve vi vo X:=by
 have h':=h.after hb
 refine ⟨h'.below,h'.ge,h'.blk,h'.rows,fun k o hM=>?_⟩
 by_cases hk:v.ownBlock=some k
 · rw [if_pos hk] at hM
   have hge:=(ho.lt k hk).1
   have hg:=h.blk.lt
   refine ⟨hM,by omega,fun hc=>?_,fun hc=>?_,fun hc=>?_⟩
   · have:=RowAt.blockLt h.rows.hist.1 hc
     omega
   · have:=(h.rows.ins.lt k hc).2
     omega
   · have:=(h.rows.out.lt k hc).2
     omega
 · rw [if_neg hk] at hM
   cases hM
theorem SeAt.rowKept {e:TypeId} {B s n:Nat} {v:Value} {xs:List Value} (h:SeAt w0 (fun k=>if v.ownBlock=some k then w1.heap[k]? else none) t g vs vt C w vh ve vi vo X) (ho:w1.ownsRow B e s v n xs):w.ownsRow B e s v n xs:=by
 refine own_stays ho fun b hb=>?_
 have hlt:=(ho.lt b hb).2
 have hx:w1.heap[b]?=some w1.heap[b]:=Array.getElem?_eq_getElem hlt
 rw [hx]
 exact (h.prot b _ (by rw [if_pos hb]; exact hx)).1
end
theorem Fx.tacts {w0:World} {t:Nat} {vs vt:Value} {C:Ch} (h:Fx w0 t vs vt C) (s:Int):(trAt C.trs s).acts.length≤40∧∀ a ∈ (trAt C.trs s).acts,a.expr.size≤1000000:=by
 unfold trAt
 rcases Nat.lt_or_ge s.toNat C.trs.length with hk | hk
 · have:=(few_parts h.few).2.2.2 s.toNat hk
   unfold fewTrB at this
   simp only [Bool.and_eq_true,decide_eq_true_eq] at this
   exact of_fewActs this.1.1
 · rw [List.getD_eq_getElem?_getD,List.getElem?_eq_none hk]
   exact ⟨by decide,fun a ha=>by cases ha⟩
def StPost (C:Ch) (Y:Se) (w:World) (e:Ending) (w':World):Prop:=Below w.heap.size w w'∧∃ v vo,e=.returned (.tuple #[v,vo])∧RunOw w.heap.size w' C.sts.length v vo Y
set_option maxHeartbeats 8000000 in
set_option maxRecDepth 100000 in
theorem mstep_any (t:Nat) (C:Ch) (w:World) (hL:Laid w) (hT:TreeAt w t C) (hk:chk hasTB C=.ok) (hFw:fewB C=true) (a:Nat→Bool) (vh ve vi vl:Value) (H:List Nat) (env ins l:List Int) (st:Int)
 (hH:HistAt w vh H) (hHl:H.length≤900) (hE:NumsAt w ve env) (hEl:env.length≤1000) (hEf:∀ x ∈ env,F64 x) (hI:ListAt w vi ins) (hIl:ins.length≤100000) (hv:ListAt w vl l) (hll:l.length≤1000) (hin:∀ i ∈ l,isTr C.trs i=true) :
 Calls Tryz.prog 130 #[.pointer (some ⟨t,0,none⟩),.agg #[.int .u32 ((bset a C.sts.length:Nat):Int),vh,ve,vi,.int .i64 st],vl] w (StPost C (stpS C l ⟨a,padH C.sts.length H,env,ins,st,[]⟩) w):=by
 have hta:=tame_of hk
 have hcl:=hta.len
 obtain ⟨hA,hcap,rfl,hhcap⟩:=RowsAt.slice hH
 obtain ⟨eA,ecap,rfl,hecap⟩:=RowsAt.slice (rows_of_nums hE)
 obtain ⟨iA,icap,rfl,hicap⟩:=RowsAt.slice hI
 obtain ⟨lA,lcap,rfl,hlcap⟩:=RowsAt.slice hv
 have hb0:Below w.heap.size w ((w.alloc (.cells #[.int .u32 ((bset a C.sts.length:Nat):Int),.slice hA H.length hcap,.slice eA env.length ecap,.slice iA ins.length icap,.int .i64 st] 38)).alloc (.cells #[.int .u32 0,.slice none 0 0,.slice none 0 0,.slice none 0 0,.int .i64 0] 38)):=(below_box w _).alloc (by simp) _
 have HB0:=Lib.hid hb0
 have HX0:=Lib.hid ((Blk.new w 38 #[.int .u32 ((bset a C.sts.length:Nat):Int),.slice hA H.length hcap,.slice eA env.length ecap,.slice iA ins.length icap,.int .i64 st]).alloc (.cells #[.int .u32 0,.slice none 0 0,.slice none 0 0,.slice none 0 0,.int .i64 0] 38))
 have HY0:=Lib.hid (Blk.new_at (w.alloc (.cells #[.int .u32 ((bset a C.sts.length:Nat):Int),.slice hA H.length hcap,.slice eA env.length ecap,.slice iA ins.length icap,.int .i64 st] 38)) 38 #[.int .u32 0,.slice none 0 0,.slice none 0 0,.slice none 0 0,.int .i64 0] (w.heap.size+1) (by simp))
 have HSF:=Lib.hid (stepFrom_any t C _ (hL.after hb0) (hT.below hb0) hk hFw a _ _ _ H env ins st (hH.below hb0) (by omega) (hE.below hb0) hEl (hI.below hb0) hIl)
 have HLV:=Lib.hid (fun (W:World) (h:Below w.heap.size w W)=>hv.below h)
 have hnt:=fun W=>nilT_no t W
 have HX:Hid (Lim 0 ⟨a,padH C.sts.length H,env,ins,st,[]⟩):=Lib.hid ⟨hEl,hEf,by show ([]:List Ou).length≤_; simp,by show ins.length≤_; omega⟩
 have HIN:=Lib.hid hin
 have HPL:Hid (C.sts.length≤(padH C.sts.length H).length∧(padH C.sts.length H).length≤1000):=Lib.hid (by rw [padH_len]; omega)
 obtain ⟨X0,hX0⟩:∃ X0:Se,(⟨a,padH C.sts.length H,env,ins,st,[]⟩:Se)=X0:=⟨_,rfl⟩
 have HXH:Hid (X0.hist=padH C.sts.length H):=Lib.hid (by rw [← hX0])
 rw [hX0] at HSF HX ⊢
 have HXA:Hid (X0.a=a):=Lib.hid (by rw [← hX0])
 obtain ⟨⟨x0,x1,x2,x3,x4⟩,-⟩:=blk5_facts HX0.out
 clear hL hT hk hFw hH hE hI hv hin hb0 hhcap hecap hicap hlcap hta hEf hX0
 go_enter Tryz.func130,Tryz.ntmps130
 go_wp2_with fail
 refine HSF.out.mono ?_
 rintro e w2 ⟨w0,g,vs,vt,vh2,ve2,vi2,rfl,hb2,hF,hS2⟩
 have HW0:Hid (w.heap.size≤w0.heap.size):=Lib.hid (Nat.le_trans HB0.out.size hb2.size)
 have HF:=Lib.hid hF
 have HB2:=Lib.hid (HB0.out.trans (hb2.mono HB0.out.size))
 have HY2:=Lib.hid (HY0.out.below hb2 HY0.out.lt)
 have HS2:=Lib.hid hS2
 have hb02:=HB2.out.trans (hS2.below.mono HB2.out.size)
 have HTY:=Lib.hid (thatAreThere_any hF hS2 _ l (HLV.out w2 hb02) hll HIN.out)
 clear hb2 hF hS2 hb02 HSF x0 x1 x2 x3 x4 HLV
 go_wp2_with fail
 refine HTY.out.mono ?_
 rintro e w3 ⟨v3,rfl,hb3,hown3⟩
 have HS3:=Lib.hid (HS2.out.keepRow hb3 hown3)
 obtain ⟨A3,cap3,rfl⟩:=own_slice hown3
 have HO3:=Lib.hid hown3
 have HLF:=Lib.hid (left_any HF.out HS3.out _ l hown3 (by omega))
 clear hb3 hown3 HTY HS2
 go_wp2_with fail
 refine HLF.out.mono ?_
 rintro e w4 ⟨rfl,hb4⟩
 have HS4:=Lib.hid (HS3.out.after hb4)
 have HLA:=Lib.hid (leaveAll_any HF.out HS4.out (by rw [HXH.out]; exact HPL.out.1) HX.out (by omega) (leftQ C (bset X0.a C.sts.length) l C.trs.length))
 obtain ⟨Y,hY⟩:∃ Y,lvS C.sts (leftQ C (bset X0.a C.sts.length) l C.trs.length) X0=Y:=⟨_,rfl⟩
 have HYY:=Lib.hid hY
 rw [hY] at HLA
 have HYL:Hid (Lim C.sts.length Y):=Lib.hid (by
  rw [← hY]
  have:=offU_lim (fun s=>(HF.out.acts s).2.1) (leftQ C (bset X0.a C.sts.length) l C.trs.length) (putH_lim HX.out (recU C.sts (leftQ C (bset X0.a C.sts.length) l C.trs.length) X0.a C.sts.length X0.hist)) C.sts.length
  exact this.mono (by omega))
 have HYH:Hid (Y.hist.length=X0.hist.length):=Lib.hid (by
  rw [← hY]
  unfold lvS
  rw [offU_hist]
  exact recU_len ..)
 clear hb4 hY HLF HS3
 go_wp2_with fail
 refine HLA.out.mono ?_
 rintro e w5 ⟨rfl,vh5,ve5,vi5,vo5,hs5⟩
 have HS5:=Lib.hid hs5
 clear hs5 HLA HS4
 have HU:Hid (∀ m,acU C.trs l (m+1) Y=doS (trAt C.trs (l.getD m 0)).acts (acU C.trs l m Y)):=Lib.hid (fun m=>rfl)
 have HUL:Hid (∀ m,Lim (C.sts.length+m) (acU C.trs l m Y)):=Lib.hid (fun m=>acU_lim (fun i=>(HF.out.tacts i).1) HYL.out m)
 have HU0:Hid (acU C.trs l 0 Y=Y):=Lib.hid rfl
 have HUH:Hid (∀ m,(acU C.trs l m Y).hist=Y.hist):=Lib.hid (fun m=>acU_hist C.trs l m Y)
 have HRES:Hid (stpS C l X0=entU C.sts (fun k=>entQ C (acU C.trs l l.length Y).hist l C.trs.length k && !(acU C.trs l l.length Y).a k) C.sts.length (acU C.trs l l.length Y)):=Lib.hid (by rw [← HYY.out]; rfl)
 generalize acU C.trs l=U at *
 clear HYY
 go_wp2_with fail
 go_loopw [27] (fun i wr=>∃ (m:Nat) (vh6 ve6 vi6 vo6:Value),m≤l.length∧i=.int .i64 (m:Int)∧Hid (SeAt w0 (fun k=>if (Value.slice A3 l.length cap3).ownBlock=some k then w3.heap[k]? else none) t g vs vt C wr vh6 ve6 vi6 vo6 (U m Y))) (fun i _=>l.length - (intOf i).toNat)
 case atStart=>exact ⟨0,_,_,_,_,Nat.zero_le _,rfl,Lib.hid (by rw [HU0.out]; exact HS5.out)⟩
 case round =>
  clear HS5 HU0
  obtain ⟨m,vh6,ve6,vi6,vo6,hm,rfl,HSK⟩:=hrel
  obtain ⟨wo,rfl⟩:∃ wo:World,wo=wr:=⟨_,rfl⟩
  have HOK:=Lib.hid (HSK.out.rowKept HO3.out)
  by_cases hlt:m < l.length
  · obtain ⟨_,_,q1,_,q3⟩:=list_of_own HOK.out
    injection q1 with e1 e2 e3
    subst e1
    obtain ⟨bb,oo,hAA,hbl,hc⟩:=q3 m _ (List.getElem?_eq_getElem hlt)
    subst hAA
    have c0:wo.cell? ⟨bb,oo+m,none⟩=some (.int .i64 l[m]):=by have:=hc; unfold IntAt at this; rwa [Nat.mul_one] at this
    have hu:=HU.out m
    have hgd:l.getD m 0=l[m]:=by rw [List.getD_eq_getElem?_getD,List.getElem?_eq_getElem hlt]; rfl
    rw [hgd] at hu
    have htr:=HIN.out l[m] (List.getElem_mem hlt)
    generalize l[m]=x at *
    obtain ⟨k,rfl,hk⟩:=isTr_nat htr
    obtain ⟨b,o,cap',wt,wa,hsl,_,hbl2,htc,hth⟩:=HF.out.has.tra hk
    subst hsl
    obtain ⟨d0,d1,d2,d3,d4,d5⟩:=htc.below HSK.out.below hbl2
    obtain ⟨x0,x1,x2,x3⟩:wo.cell? ⟨g,0,none⟩=some (.pointer (some ⟨t,0,none⟩))∧True∧True∧wo.cell? ⟨g,3,none⟩=some (.slice (some ⟨b,o,none⟩) C.trs.length cap'):=⟨HSK.out.cells.1.1,trivial,trivial,HSK.out.cells.1.2.2.2.1⟩
    have HUK:=Lib.hid hu
    have HDO:=Lib.hid (doM_any HF.out HSK.out (HUL.out m) (by omega) wa (trAt C.trs (k:Int)).acts (hth.2.below HSK.out.below) (HF.out.tacts (k:Int)).1 (HF.out.tacts (k:Int)).2)
    obtain ⟨tgA,tgcap,acA,accap,rfl,rfl⟩:=hth.slices
    clear hc q3 e2 e3 hgd hu htr htc hth x1 x2
    generalize (trAt C.trs (k:Int)).acts.length=al at *
    go_wp2_with fail
    refine HDO.out.mono ?_
    rintro e w6 ⟨rfl,vh7,ve7,vi7,vo7,hs7⟩
    have HS7:=Lib.hid hs7
    clear hs7 c0 d0 d1 d2 d3 d4 d5 x0 x3
    go_wp2_with fail
    go_roundw
    case rel=>exact ⟨m+1,_,_,_,_,by omega,by go_num,Lib.hid (by rw [HUK.out]; exact HS7.out)⟩
    case measure=>simp [intOf]; omega
  · obtain rfl:m=l.length:=by omega
    have HLZ:=Lib.hid (HUL.out l.length)
    have HHZ:=Lib.hid (HUH.out l.length)
    obtain ⟨Z,hZ⟩:∃ Z,U l.length Y=Z:=⟨_,rfl⟩
    rw [hZ] at HSK HLZ HHZ HRES
    have HEN:=Lib.hid (entered_any HF.out HSK.out (by rw [HHZ.out,HYH.out,HXH.out]; exact HPL.out.2) _ l HOK.out (by omega))
    clear HU HUL HUH hZ
    go_wp2_with fail
    refine HEN.out.mono ?_
    rintro e w6 ⟨rfl,hb6⟩
    have HS6:=Lib.hid (HSK.out.after hb6)
    have HEA:=Lib.hid (enterAll_any HF.out HS6.out HLZ.out (by omega) (entQ C Z.hist l C.trs.length))
    clear hb6 HEN
    obtain ⟨R,hR⟩:∃ R,entU C.sts (fun k=>entQ C Z.hist l C.trs.length k && !Z.a k) C.sts.length Z=R:=⟨_,rfl⟩
    rw [hR] at HEA HRES
    clear hR
    go_wp2_with fail
    refine HEA.out.mono ?_
    rintro e w7 ⟨rfl,vh7,ve7,vi7,vo7,hs7⟩
    obtain ⟨hA7,hcap7,rfl⟩:=hs7.rows.hist.slice
    obtain ⟨eA7,ecap7,rfl⟩:=hs7.rows.env.slice
    obtain ⟨iA7,icap7,rfl⟩:=own_slice hs7.rows.ins
    obtain ⟨oA7,ocap7,rfl⟩:=own_slice hs7.rows.out
    have HS7:=Lib.hid hs7.drew
    have HY7:=Lib.hid ((HY2.out.below hs7.below HY2.out.lt).drew)
    have HB7:=Lib.hid ((HB2.out.trans (hs7.below.mono HB2.out.size)).drew)
    have hgne:g ≠ w.heap.size+1:=by have:=hs7.ge; have:=HY2.out.lt; omega
    clear hs7 HEA HS6 HSK HOK
    go_wp2_with fail
    obtain ⟨⟨-,-,-,-,x4⟩,x5,x6,x7,x8,x9⟩:=HS7.out.cells
    obtain ⟨⟨p0,p1,p2,p3,p4⟩,q0,q1,q2,q3,q4⟩:=blk5_facts HY7.out
    refine anyD_start (fun W=>(W.cell? ⟨g,4,none⟩=some (.int .u32 ((bset R.a C.sts.length:Nat):Int))∧W.cell? ⟨g,5,none⟩=some (.slice hA7 R.hist.length hcap7)∧W.cell? ⟨g,6,none⟩=some (.slice eA7 R.env.length ecap7)∧W.cell? ⟨g,7,none⟩=some (.slice iA7 R.ins.length icap7)∧W.cell? ⟨g,8,none⟩=some (.int .i64 R.st))∧W.cell? ⟨g,9,none⟩=some (.slice oA7 R.out.length ocap7)) (fun i=>[].contains i) (by kernel_rfl) ?_
    try simp only [Act.put,sx]
    generalize w7.drew=w8 at *
    refine anyD_t 0 (.pointer (some ⟨g,0,none⟩)) ?_
    try simp only [Act.put,sx]
    refine anyD_t 1 (.pointer (some ⟨g,0,none⟩)) ?_
    try simp only [Act.put,sx]
    refine anyD_t 2 (.pointer (some ⟨g,4,none⟩)) ?_
    try simp only [Act.put,sx]
    refine anyD_l 3 (.agg #[.int .u32 ((bset R.a C.sts.length:Nat):Int),.slice hA7 R.hist.length hcap7,.slice eA7 R.env.length ecap7,.slice iA7 R.ins.length icap7,.int .i64 R.st]) (⟨⟨x4,x5,x6,x7,x8⟩,x9⟩) ?_
    try simp only [Act.put,sx]
    refine anyD_t 4 (.pointer (some ⟨g,0,none⟩)) ?_
    try simp only [Act.put,sx]
    refine anyD_t 5 (.pointer (some ⟨g,0,none⟩)) ?_
    try simp only [Act.put,sx]
    refine anyD_t 6 (.pointer (some ⟨g,9,none⟩)) ?_
    try simp only [Act.put,sx]
    refine anyD_l 7 (.slice oA7 R.out.length ocap7) (⟨⟨x4,x5,x6,x7,x8⟩,x9⟩) ?_
    try simp only [Act.put,sx]
    have hg8:=((((HS7.out.blk.set_ne hgne 0 (.int .u32 ((bset R.a C.sts.length:Nat):Int))).set_ne hgne 1 (.slice hA7 R.hist.length hcap7)).set_ne hgne 2 (.slice eA7 R.env.length ecap7)).set_ne hgne 3 (.slice iA7 R.ins.length icap7)).set_ne hgne 4 (.int .i64 R.st)
    have HG8:=Lib.hid hg8
    clear hg8
    refine anyD_one (i:=8) rfl rfl (by kernel_rfl) (fun K HK=>?_)
    go_simp
    go_simp
    refine HK.out _ _ (fun _ hS=>⟨⟨HG8.out.cell 4,HG8.out.cell 5,HG8.out.cell 6,HG8.out.cell 7,HG8.out.cell 8⟩,HG8.out.cell 9⟩) ?_
    clear HK K
    try simp only [Act.put,sx]
    refine anyD_one (i:=9) rfl rfl (by kernel_rfl) (fun K HK=>?_)
    go_simp
    refine HK.out _ _ (fun _ hS=>hS) ?_
    clear HK K
    try simp only [Act.put,sx]
    refine anyD_done (by kernel_rfl) ?_
    go_wp2_with fail
    have r1:=HS7.out.rows.apart HY7.out (by decide) (by decide) (by decide) (by decide) 0 (.int .u32 ((bset R.a C.sts.length:Nat):Int))
    have k1:=HY7.out.set_ 0 (.int .u32 ((bset R.a C.sts.length:Nat):Int))
    have r2:=r1.apart k1 (by decide) (by decide) (by decide) (by decide) 1 (.slice hA7 R.hist.length hcap7)
    have k2:=k1.set_ 1 (.slice hA7 R.hist.length hcap7)
    have r3:=r2.apart k2 (by decide) (by decide) (by decide) (by decide) 2 (.slice eA7 R.env.length ecap7)
    have k3:=k2.set_ 2 (.slice eA7 R.env.length ecap7)
    have r4:=r3.apart k3 (by decide) (by decide) (by decide) (by decide) 3 (.slice iA7 R.ins.length icap7)
    have k4:=k3.set_ 3 (.slice iA7 R.ins.length icap7)
    have r5:=r4.apart k4 (by decide) (by decide) (by decide) (by decide) 4 (.int .i64 R.st)
    have k5:=k4.set_ 4 (.int .i64 R.st)
    have hb8:=(((((HB7.out.setCell (p:=⟨w.heap.size+1,0,none⟩) (Nat.le_succ _) (.int .u32 ((bset R.a C.sts.length:Nat):Int))).setCell (p:=⟨w.heap.size+1,1,none⟩) (Nat.le_succ _) (.slice hA7 R.hist.length hcap7)).setCell (p:=⟨w.heap.size+1,2,none⟩) (Nat.le_succ _) (.slice eA7 R.env.length ecap7)).setCell (p:=⟨w.heap.size+1,3,none⟩) (Nat.le_succ _) (.slice iA7 R.ins.length icap7)).setCell (p:=⟨w.heap.size+1,4,none⟩) (Nat.le_succ _) (.int .i64 R.st))
    refine bodyPost_ret (results_two rfl _ _ _ rfl (load_run k5)) rfl ?_
    rw [HRES.out]
    exact ⟨hb8,_,_,rfl,_,_,_,rfl,r5.lower HW0.out⟩
end Go.Proofs.YtmhkpjcdkjnlnaaGreatDoor
