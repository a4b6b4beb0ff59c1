/- The document's session in memory; the contracts of its Row, Bits, acts, done. -/
import Derived.Test.YtfgkcjmeiabdjaaGreatDoorFIze
import Derived.Test.YtfgkcjmeiabdjaaGreatDoorFSde
import Derived.Test.YtfgkcjmeiabdjaaGreatDoorFAdh
import Derived.Test.YtfgkcjmeiabdjaaGreatDoorFIst
import Derived.Test.YtfgkcjmeiabdjaaGreatDoorFIup
namespace Go.Proofs.YtfgkcjmeiabdjaaGreatDoor
open Go.ChangeShapes Go.WideShapes Go.ChangeAt Go.RowKit
set_option linter.unusedVariables false

def TruAt (w:World) (b n:Nat) (A:Nat→Bool):Prop:=∃ cur,Blk w b 4 cur∧cur.size=n∧∀ i,i < n→cur[i]?=some (.bool (A i))
theorem TruAt.below {w w':World} {b n:Nat} {A:Nat→Bool} (h:TruAt w b n A) (hb:Below w.heap.size w w'):TruAt w' b n A:=by
  obtain ⟨cur,h1,h2⟩:=h
  exact ⟨cur,h1.below hb h1.lt,h2⟩
theorem TruAt.cell {w:World} {b n:Nat} {A:Nat→Bool} (h:TruAt w b n A) {k:Nat} (hk:k < n):w.cell? ⟨b,k,none⟩=some (.bool (A k))∧w.frozen? ⟨b,k,none⟩=false:=by
  obtain ⟨cur,h1,h2,h3⟩:=h
  exact ⟨(h1.cell k).trans (h3 k hk),h1.frozen k⟩
theorem TruAt.put {w:World} {b n:Nat} {A:Nat→Bool} (h:TruAt w b n A) (k:Nat) (x:Bool) (B:Nat→Bool) (hB:∀ i,i < n→B i=if i=k then x else A i):TruAt (w.setCell ⟨b,k,none⟩ (.bool x)) b n B:=by
  obtain ⟨cur,h1,h2,h3⟩:=h
  refine ⟨_,h1.set_ k _,by simpa using h2,fun i hi=>?_⟩
  by_cases hik:k=i
  · subst hik
    rw [Array.getElem?_setIfInBounds_self_of_lt (by omega),hB k hi,if_pos rfl]
  · rw [Array.getElem?_setIfInBounds_ne hik,h3 i hi,hB i hi,if_neg (Ne.symm hik)]
theorem TruAt.apart {w:World} {b n g:Nat} {A:Nat→Bool} (h:TruAt w b n A) (hne:b ≠ g) (j:Nat) (u:Value):TruAt (w.setCell ⟨g,j,none⟩ u) b n A:=by
  obtain ⟨cur,h1,h2⟩:=h
  exact ⟨cur,h1.set_ne hne j u,h2⟩
set_option maxHeartbeats 4000000 in
set_option maxRecDepth 100000 in
theorem bitsB_any (b n:Nat) (A:Nat→Bool) (w:World) (hE:TruAt w b n A) (hn:n≤31) :
    Calls Tryz.prog 33 #[.slice (some ⟨b,0,none⟩) n n] w fun e w'=>e=.returned (.int .u32 ((bset A n:Nat):Int))∧w=w':=by
  have HB:=Lib.hid (fun k (hk:k < n)=>(hE.cell hk).1)
  have HNB:=Lib.hid (fun k (hk:k < n)=>bset_bit A n k hk)
  have hsm:=bset_u32 A hn
  have H0:Hid (bset A n / 2 ^ n=0):=Lib.hid (Nat.div_eq_of_lt (bset_lt A n))
  have H1:Hid (bset A n / 2 ^ 0=bset A n):=Lib.hid (by simp)
  generalize bset A n=N at *
  clear hE
  go_enter Tryz.func33,Tryz.ntmps33
  go_wp2_with fail
  go_loopw [3,4] (fun v i wr=>∃ m:Nat,m≤n∧i=.int .i64 ((m:Int) - 1)∧v=.int .u32 ((N / 2 ^ m:Nat):Int)∧wr=w) (fun _ i _=>(intOf i+1).toNat)
  case atStart=>exact ⟨n,Nat.le_refl _,by go_num,by rw [H0.out]; rfl,rfl⟩
  case round =>
    obtain ⟨m,hm,rfl,rfl,rfl⟩:=hrel
    by_cases h0:m=0
    · subst h0
      go_wp2_with fail
      go_ret
      exact ⟨ret_int (by rw [H1.out]),rfl⟩
    · obtain ⟨j,rfl⟩:∃ j,m=j+1:=⟨m - 1,by omega⟩
      have e1:((j+1:Nat):Int) - 1=(j:Int):=by omega
      rw [e1]
      have hge:decide (0≤(j:Int))=true:=by simp
      have c0:wr.cell? ⟨b,j,none⟩=some (.bool (A j)):=HB.out j (by omega)
      have hbit:=HNB.out j (by omega)
      have hhf:=half N j
      have hle:N / 2 ^ j≤N:=Nat.div_le_self _ _
      generalize hq:N / 2 ^ (j+1)=q at *
      generalize hp:N / 2 ^ j=p at *
      have hw:IntKind.u32.wrap ((q:Int) * 2)=(q:Int) * 2:=wrap_u32 _ (by omega) (by have:(2:Int) ^ 32=4294967296:=rfl; omega)
      cases hA:A j with
      | true =>
        rw [hA] at c0 hbit
        have hpq:p=q * 2+1:=by rw [if_pos rfl] at hbit; omega
        have hw2:IntKind.u32.wrap ((q:Int) * 2+1)=(q:Int) * 2+1:=wrap_u32 _ (by omega) (by have:(2:Int) ^ 32=4294967296:=rfl; omega)
        have HP:=Lib.hid hp
        have HPQ:=Lib.hid hpq
        clear hq hp hhf hbit hA hpq
        go_wp2_with fail
        go_roundw
        case rel=>exact ⟨j,by omega,by go_num,by rw [HP.out,HPQ.out]; go_num,trivial⟩
        case measure=>simp [intOf]
      | false =>
        rw [hA] at c0 hbit
        have hpq:p=q * 2:=by rw [if_neg (by simp)] at hbit; omega
        have HP:=Lib.hid hp
        have HPQ:=Lib.hid hpq
        clear hq hp hhf hbit hA hpq
        go_wp2_with fail
        go_roundw
        case rel=>exact ⟨j,by omega,by go_num,by rw [HP.out,HPQ.out]; go_num,trivial⟩
        case measure=>simp [intOf]
abbrev dsCs (C:Ch) (vs vt vh ve vi vo:Value) (ba:Nat) (X:Se) (fu:Int):Array Value :=
  #[.int .i64 C.vars,vs,vt,.slice (some ⟨ba,0,none⟩) C.sts.length C.sts.length,vh,ve,vi,.int .i64 X.st,vo,.int .i64 fu]
structure DeAt (w0:World) (g ba:Nat) (vs vt:Value) (C:Ch) (fu:Int) (w:World) (vh ve vi vo:Value) (X:Se):Prop where
  below:Below w0.heap.size w0 w
  ge:w0.heap.size≤g∧w0.heap.size≤ba
  blk:Blk w g 50 (dsCs C vs vt vh ve vi vo ba X fu)
  act:TruAt w ba C.sts.length X.a
  rows:RwAt w0.heap.size w vh ve vi vo X
section
variable {w0:World} {g ba:Nat} {vs vt:Value} {C:Ch} {fu:Int} {w w':World} {vh ve vi vo:Value} {X:Se}
theorem DeAt.lt (h:DeAt w0 g ba vs vt C fu w vh ve vi vo X):w0.heap.size≤w.heap.size:=h.below.size
theorem DeAt.ne (h:DeAt w0 g ba vs vt C fu w vh ve vi vo X):ba ≠ g:=fun hc=>by
  obtain ⟨cur,h1,_⟩:=h.act
  have h2:=h.blk
  subst hc
  unfold Blk at h1 h2
  rw [h1] at h2
  injection h2 with h2
  injection h2 with _ h5
  exact absurd h5 (by decide)
theorem DeAt.after (h:DeAt w0 g ba vs vt C fu w vh ve vi vo X) (hb:Below w.heap.size w w'):DeAt w0 g ba vs vt C fu w' vh ve vi vo X :=
  ⟨h.below.trans (hb.mono h.lt),h.ge,h.blk.below hb h.blk.lt,h.act.below hb,h.rows.below hb⟩
theorem DeAt.drew (h:DeAt w0 g ba vs vt C fu w vh ve vi vo X):DeAt w0 g ba vs vt C fu w.drew vh ve vi vo X:=h.after (Below.refl _ _).drew
theorem DeAt.drewN (h:DeAt w0 g ba vs vt C fu w vh ve vi vo X) (n:Nat):DeAt w0 g ba vs vt C fu (w.drewN n) vh ve vi vo X:=h.after (below_drewN (Below.refl _ _) n)
theorem DeAt.cells (h:DeAt w0 g ba vs vt C fu w vh ve vi vo X) :
    (w.cell? ⟨g,0,none⟩=some (.int .i64 C.vars)∧w.cell? ⟨g,1,none⟩=some vs∧w.cell? ⟨g,2,none⟩=some vt∧w.cell? ⟨g,3,none⟩=some (.slice (some ⟨ba,0,none⟩) C.sts.length C.sts.length)∧w.cell? ⟨g,4,none⟩=some vh) ∧
    (w.cell? ⟨g,5,none⟩=some ve∧w.cell? ⟨g,6,none⟩=some vi∧w.cell? ⟨g,7,none⟩=some (.int .i64 X.st)∧w.cell? ⟨g,8,none⟩=some vo∧w.cell? ⟨g,9,none⟩=some (.int .i64 fu)) :=
  ⟨⟨h.blk.cell 0,h.blk.cell 1,h.blk.cell 2,h.blk.cell 3,h.blk.cell 4⟩,⟨h.blk.cell 5,h.blk.cell 6,h.blk.cell 7,h.blk.cell 8,h.blk.cell 9⟩⟩
theorem DeAt.froz (h:DeAt w0 g ba vs vt C fu w vh ve vi vo X):w.frozen? ⟨g,4,none⟩=false∧w.frozen? ⟨g,5,none⟩=false∧w.frozen? ⟨g,6,none⟩=false∧w.frozen? ⟨g,7,none⟩=false∧w.frozen? ⟨g,8,none⟩=false :=
  ⟨h.blk.frozen 4,h.blk.frozen 5,h.blk.frozen 6,h.blk.frozen 7,h.blk.frozen 8⟩
theorem DeAt.set (h:DeAt w0 g ba vs vt C fu w vh ve vi vo X) {vh' ve' vi' vo':Value} {X':Se} (j:Nat) (u:Value) (hcs:(dsCs C vs vt vh ve vi vo ba X fu).setIfInBounds j u=dsCs C vs vt vh' ve' vi' vo' ba X' fu) (hr:RwAt w0.heap.size w vh' ve' vi' vo' X') (ha:X'.a=X.a) :
    DeAt w0 g ba vs vt C fu (w.setCell ⟨g,j,none⟩ u) vh' ve' vi' vo' X' :=
  ⟨h.below.setCell h.ge.1 u,h.ge,by rw [← hcs]; exact h.blk.set_ j u,by rw [ha]; exact h.act.apart h.ne j u,hr.apart h.blk (by decide) (by decide) (by decide) (by decide) j u⟩
theorem DeAt.putSt (h:DeAt w0 g ba vs vt C fu w vh ve vi vo X) (n:Int):DeAt w0 g ba vs vt C fu (w.setCell ⟨g,7,none⟩ (.int .i64 n)) vh ve vi vo (X.putSt n) :=
  h.set 7 _ rfl ⟨h.rows.hist,h.rows.env,h.rows.ins,h.rows.out⟩ rfl
theorem DeAt.putE (h:DeAt w0 g ba vs vt C fu w vh ve vi vo X) {ve':Value} {E:List Int} (he:OwnEnv w0.heap.size w ve' E):DeAt w0 g ba vs vt C fu (w.setCell ⟨g,5,none⟩ ve') vh ve' vi vo ⟨X.a,X.hist,E,X.ins,X.st,X.out⟩ :=
  h.set 5 _ rfl (h.rows.putE he) rfl
theorem DeAt.putT (h:DeAt w0 g ba vs vt C fu w vh ve vi vo X) (k:Nat):DeAt w0 g ba vs vt C fu (w.setCell ⟨ba,k,none⟩ (.bool true)) vh ve vi vo (X.putA (addS X.a (k:Int))):=by
  obtain ⟨cur,h1,_⟩:=h.act
  have hr:=h.rows.apart h1 (by decide) (by decide) (by decide) (by decide) k (.bool true)
  refine ⟨h.below.setCell h.ge.2 _,h.ge,h.blk.set_ne (Ne.symm h.ne) k _,h.act.put k true _ fun i hi=>?_,⟨hr.hist,hr.env,hr.ins,hr.out⟩⟩
  show addS X.a (k:Int) i=_
  unfold addS
  by_cases hik:i=k
  · subst hik; simp
  · rw [if_neg hik]
    have:decide ((i:Int)=(k:Int))=false:=by simpa using (by omega:¬ (i:Int)=k)
    rw [this]
    simp
theorem DeAt.growI (h:DeAt w0 g ba vs vt C fu w vh ve vi vo X) {vi':Value} {L:List Int} (hg:w.grownBy w' vi.ownBlock) (ho:w'.ownsRow w0.heap.size 3 1 vi' (X.ins.length+L.length) (intVals X.ins ++ intVals L)) :
    DeAt w0 g ba vs vt C fu (w'.setCell ⟨g,6,none⟩ vi') vh ve vi' vo ⟨X.a,X.hist,X.env,X.ins ++ L,X.st,X.out⟩:=by
  have ho':OwnIns w0.heap.size w' vi' (X.ins ++ L):=by
    unfold OwnIns intVals
    rw [List.map_append,List.length_append]
    exact ho
  have hb:Blk w' g 50 (dsCs C vs vt vh ve vi vo ba X fu):=blk_grown h.blk h.rows.ins (by decide) hg
  obtain ⟨cur,h1,h2⟩:=h.act
  have h1':=blk_grown h1 h.rows.ins (by decide) hg
  exact ⟨(grown_below (g:=g) h.below h.rows.ins h.lt hg).setCell h.ge.1 _,h.ge,hb.set_ 6 vi',⟨cur,h1'.set_ne h.ne 6 vi',h2⟩,(h.rows.growI hg ho').apart hb (by decide) (by decide) (by decide) (by decide) 6 vi'⟩
theorem DeAt.growO (h:DeAt w0 g ba vs vt C fu w vh ve vi vo X) {vo':Value} {L:List Ou} (hg:w.grownBy w' vo.ownBlock) (ho:w'.ownsRow w0.heap.size 83 4 vo' (X.out.length+L.length) (X.out.flatMap ouCells ++ L.flatMap ouCells)) :
    DeAt w0 g ba vs vt C fu (w'.setCell ⟨g,8,none⟩ vo') vh ve vi vo' ⟨X.a,X.hist,X.env,X.ins,X.st,X.out ++ L⟩:=by
  have ho':OwnOuts w0.heap.size w' vo' (X.out ++ L):=by
    unfold OwnOuts
    rw [List.flatMap_append,List.length_append]
    exact ho
  have hb:Blk w' g 50 (dsCs C vs vt vh ve vi vo ba X fu):=blk_grown h.blk h.rows.out (by decide) hg
  obtain ⟨cur,h1,h2⟩:=h.act
  have h1':=blk_grown h1 h.rows.out (by decide) hg
  exact ⟨(grown_below (g:=g) h.below h.rows.out h.lt hg).setCell h.ge.1 _,h.ge,hb.set_ 8 vo',⟨cur,h1'.set_ne h.ne 8 vo',h2⟩,(h.rows.growO hg ho').apart hb (by decide) (by decide) (by decide) (by decide) 8 vo'⟩
def DePost (w0:World) (g ba:Nat) (vs vt:Value) (C:Ch) (fu:Int) (Y:Se) (e:Ending) (w':World):Prop:=e=.returned (.tuple #[])∧∃ vh ve vi vo,DeAt w0 g ba vs vt C fu w' vh ve vi vo Y
theorem DePost.of {Y Z:Se} {e:Ending} (he:e=.returned (.tuple #[])) (hYZ:Z=Y) (h:DeAt w0 g ba vs vt C fu w' vh ve vi vo Y):DePost w0 g ba vs vt C fu Z e w':=⟨he,vh,ve,vi,vo,hYZ ▸ h⟩
set_option maxHeartbeats 4000000 in
set_option maxRecDepth 100000 in
theorem ractsS_any (hS:DeAt w0 g ba vs vt C fu w vh ve vi vo X) {n:Nat} (hX:Lim n X) (hn:n≤10000) (va:Value) (l:List Ac) (hA:ActsAt w va l) (hl:l.length≤40) (hx:∀ a ∈ l,a.expr.size≤1000000) :
    Calls Tryz.prog 68 #[.pointer (some ⟨g,0,none⟩),va] w (DePost w0 g ba vs vt C fu (doS l X)):=by
  obtain ⟨i0,hi,hz0,hz1,hz2⟩:=info_parts Tryz.info3
  obtain ⟨i1,ji,jz0,jz1,jz2⟩:=info_parts Tryz.infoOut
  have HI:=Lib.hid hi
  have HZ0:=Lib.hid hz0
  have HZ1:=Lib.hid hz1
  have HZ2:=Lib.hid hz2
  have JI:=Lib.hid ji
  have JZ0:=Lib.hid jz0
  have JZ1:=Lib.hid jz1
  have JZ2:=Lib.hid jz2
  have HS:=Lib.hid hS
  obtain ⟨⟨x0,x1,x2,x3,x4⟩,x5,x6,x7,x8,x9⟩:=hS.cells
  have HDO:=Lib.hid (rdo_all va ve l X.env w hA hl hx hS.rows.env.nums hX.env hX.fit)
  have hol:=hX.out
  have hil:=hX.ins
  have hdo:=doL_out l ⟨X.env,[],[]⟩
  have hdi:=doL_ins l ⟨X.env,[],[]⟩
  simp only [List.length_nil] at hdo hdi
  obtain ⟨D,hD⟩:∃ D,doL l ⟨X.env,[],[]⟩=D:=⟨_,rfl⟩
  have HR:Hid (doS l X=⟨X.a,X.hist,D.env,X.ins ++ D.ins,X.st,X.out ++ D.out⟩):=Lib.hid (by rw [← hD]; rfl)
  rw [hD] at HDO hdo hdi
  clear hi hz0 hz1 hz2 ji jz0 jz1 jz2 hD hS hX hA hx
  go_enter Tryz.func68,Tryz.ntmps68
  go_wp2_with fail
  refine HDO.out.mono ?_
  rintro e w1 ⟨hb1,ve1,vo1,vi1,rfl,he1,ho1,hi1⟩
  obtain ⟨A1,cap1,rfl⟩:=OwnEnv.slice he1
  have HS1:=Lib.hid (HS.out.after hb1)
  have hsl:=HS.out.lt
  have HS2:=Lib.hid (HS1.out.putE (RowAt.lower he1 hsl))
  have HO2:=Lib.hid (own_apart (own_lower ho1 hsl) HS1.out.blk (by decide) 5 (.slice A1 D.env.length cap1))
  have HN2:=Lib.hid (own_apart (own_lower hi1 hsl) HS1.out.blk (by decide) 5 (.slice A1 D.env.length cap1))
  have HR2:=Lib.hid (rowIs_outs (OwnOuts.outs HO2.out))
  clear x0 x1 x2 x3 x4 x5 x6 x7 x8 x9
  obtain ⟨⟨x0,x1,x2,x3,x4⟩,x5,x6,x7,x8,x9⟩:=HS1.out.cells
  obtain ⟨z4,z5,z6,z7,z8⟩:=HS1.out.froz
  clear hb1 he1 ho1 hi1
  go_wp2_with (at_builtin; refine wpList_append_row3 rfl _ _ 39 rfl w0.heap.size 83 i1 (.agg #[.int .i64 0,.int .i64 0,.int .i64 0,.int .i64 0]) 4 32 Tryz.underlying39 JI.out JZ0.out JZ1.out JZ2.out rfl (by decide) _ X.out.length (X.out.flatMap ouCells) rfl HS2.out.rows.out _ D.out.length (D.out.flatMap ouCells) rfl HR2.out (Below.refl _ _) ?c3 ?c4 ?c5 ?_)
  case c3=>unfold maxLen; omega
  case c4=>omega
  case c5=>simpa using HS2.out.lt
  intro v3 w3 hown3 hgrow3 h3
  obtain ⟨A3,cap3,rfl⟩:=own_slice hown3
  have HS3:=Lib.hid (HS2.out.growO (L:=D.out) hgrow3 hown3)
  have HB3:=Lib.hid (blk_grown HS2.out.blk HS2.out.rows.out (by decide) hgrow3)
  have HN3:=Lib.hid (own_apart (World.ownsRow.kept HN2.out hgrow3 (own_own HN2.out HS2.out.rows.out (by decide))) HB3.out (by decide) 8 (.slice A3 (X.out.length+D.out.length) cap3))
  have HR3:=Lib.hid (rowIs_ints (OwnInts.of_own HN3.out (Nat.le_refl _)).list)
  have y6:w3.cell? ⟨g,6,none⟩=some vi:=HB3.out.cell 6
  have y8:w3.cell? ⟨g,8,none⟩=some vo:=HB3.out.cell 8
  have u6:=HB3.out.frozen 6
  have u8:=HB3.out.frozen 8
  clear hown3 hgrow3 h3 x0 x1 x2 x3 x4 x5 x6 x7 x8 x9 z4 z5 z6 z7 z8
  go_wp2_with (at_builtin; refine wpList_append_row3 rfl _ _ 36 rfl w0.heap.size 3 i0 (.int .i64 0) 1 8 Tryz.underlying36 HI.out HZ0.out HZ1.out HZ2.out rfl (by decide) _ X.ins.length (intVals X.ins) rfl HS3.out.rows.ins _ D.ins.length (intVals D.ins) rfl HR3.out (Below.refl _ _) ?c3 ?c4 ?c5 ?_)
  case c3=>unfold maxLen; omega
  case c4=>omega
  case c5=>simpa using HS3.out.lt
  intro v5 w5 hown5 hgrow5 h5
  obtain ⟨A5,cap5,rfl⟩:=own_slice hown5
  have HS5:=Lib.hid (HS3.out.growI (L:=D.ins) hgrow5 hown5)
  have HB5:=Lib.hid (blk_grown HS3.out.blk HS3.out.rows.ins (by decide) hgrow5)
  have t6:w5.cell? ⟨g,6,none⟩=some vi:=HB5.out.cell 6
  have r6:=HB5.out.frozen 6
  clear hown5 hgrow5 h5 y6 y8 u6 u8
  go_wp2_with fail
  go_end0
  exact .of rfl HR.out HS5.out
end
end Go.Proofs.YtfgkcjmeiabdjaaGreatDoor
/- The contracts of the document's session: done and enter. -/
namespace Go.Proofs.YtfgkcjmeiabdjaaGreatDoor
open Go.ChangeShapes Go.WideShapes Go.ChangeAt Go.RowKit
set_option linter.unusedVariables false

theorem all_take {L:List Int} {D:Int→Bool} {j:Nat} (hj:j < L.length) (h:(L.take j).all D=true) (hd:D L[j]=true):(L.take (j+1)).all D=true:=by
  rw [List.take_succ_eq_append_getElem hj,List.all_append,h]
  simp [hd]
theorem any_take {L:List Int} {D:Int→Bool} {j:Nat} (hj:j < L.length) (h:(L.take j).any D=false) (hd:D L[j]=false):(L.take (j+1)).any D=false:=by
  rw [List.take_succ_eq_append_getElem hj,List.any_append,h]
  simp [hd]
section
variable {w0:World} {g ba:Nat} {vs vt:Value} {C:Ch} {fu:Int} {w w':World} {vh ve vi vo:Value} {X:Se}
def RDoneOK (w0:World) (g ba:Nat) (vs vt:Value) (C:Ch) (fu:Int) (vh ve vi vo:Value) (X:Se) (f:Nat):Prop :=
  ∀ (s:Int) (w:World),isSt C.sts s=true→C.sts.length < f+s.toNat→DeAt w0 g ba vs vt C fu w vh ve vi vo X →
    Calls Tryz.prog 69 #[.pointer (some ⟨g,0,none⟩),.int .i64 s] w fun e w'=>e=.returned (.bool (doneF C.sts X.a f s))∧Below w.heap.size w w'
set_option maxHeartbeats 8000000 in
set_option maxRecDepth 100000 in
theorem rdone_ok (hC:ChHas w0 vs vt C) (hT:Tame C.sts):∀ f:Nat,RDoneOK w0 g ba vs vt C fu vh ve vi vo X f
  | 0=>fun s w hs hf hS=>by have:=isSt_iff.1 hs; omega
  | f+1=>fun s w hs hf hS=>by
    have IH:=Lib.hid (rdone_ok hC hT f)
    have hlen:=hT.len
    obtain ⟨k,rfl,hk⟩:=isSt_nat hs
    obtain ⟨sA,scap,tA,tcap,rfl,rfl⟩:=hC.slices
    obtain ⟨b,o,cap',ui,ue,ux,hsl,_,hbl,hst,hhas⟩:=hC.st hk
    injection hsl with e1 e2 e3
    subst e1
    have HC:=Lib.hid hC
    have HS:=Lib.hid hS
    have HST:=Lib.hid hst
    have HKS:=Lib.hid (rkids_any C.vars (k:Int) (.slice (some ⟨b,o,none⟩) C.sts.length scap) (.slice tA C.trs.length tcap) C w (hC.below hS.below) (by omega))
    have HKID:Hid (∀ x ∈ kids C.sts (k:Int),isSt C.sts x=true∧(k:Int) < x):=Lib.hid (fun x hx=>by
      obtain ⟨a1,a2,a3,a4,a5⟩:=hT.kid_up (by omega) hx
      exact ⟨a1,a4⟩)
    obtain ⟨⟨x0,x1,x2,x3,x4⟩,x5,x6,x7,x8,x9⟩:=hS.cells
    have hkl:=kids_len C.sts (k:Int)
    have hf':C.sts.length < f+1+k:=by omega
    by_cases h3:(stAt C.sts (k:Int)).kind=3
    · have HR:Hid (doneF C.sts X.a (f+1) (k:Int)=(kids C.sts (k:Int)).all (doneF C.sts X.a f)):=Lib.hid (by rw [doneF,if_neg (by rw [h3]; decide),if_pos h3])
      have HK3:=Lib.hid h3
      generalize kids C.sts (k:Int)=L at *
      clear hC hT hS hs hf hst hhas e2 e3 h3
      go_enter Tryz.func69,Tryz.ntmps69
      go_wp2_with fail
      refine HKS.out.mono ?_
      rintro e w1 ⟨hb1,v1,rfl,ho1⟩
      obtain ⟨A1,cap1,rfl,hcap1,he1⟩:=list_of_own ho1
      have HB1:=Lib.hid hb1
      have HE1:=Lib.hid he1
      have HS1:=Lib.hid (HS.out.after hb1)
      obtain ⟨c0,c1,c2,c3,c4⟩:=HST.out.below HS1.out.below hbl
      rw [HK3.out] at c0
      clear hb1 he1 ho1 x0 x1 x2 x3 x4 x5 x6 x7 x8 x9
      obtain ⟨⟨x0,x1,x2,x3,x4⟩,x5,x6,x7,x8,x9⟩:=HS1.out.cells
      go_wp2_with fail
      go_loopw [6] (fun i wr=>∃ j:Nat,j≤L.length∧i=.int .i64 (j:Int)∧Below w1.heap.size w1 wr∧Hid ((L.take j).all (doneF C.sts X.a f)=true)) (fun i _=>L.length - (intOf i).toNat)
      case atStart=>exact ⟨0,Nat.zero_le _,rfl,Below.refl _ _,Lib.hid (by simp)⟩
      case round =>
        obtain ⟨j,hj,rfl,hb,HO⟩:=hrel
        obtain ⟨wo,rfl⟩:∃ wo:World,wo=wr:=⟨_,rfl⟩
        clear x0 x1 x2 x3 x4 x5 x6 x7 x8 x9 c0 c1 c2 c3 c4
        by_cases hlt:j < L.length
        · obtain ⟨mb,mo,rfl,hmb,hmc⟩:=HE1.out j _ (List.getElem?_eq_getElem hlt)
          have d0:wo.cell? ⟨mb,mo+j,none⟩=some (.int .i64 L[j]):=by have:=IntAt.keeps w1 wo mb _ _ hb hmb hmc; rwa [Nat.mul_one] at this
          obtain ⟨hx1,hx2⟩:=HKID.out L[j] (List.getElem_mem hlt)
          have HDN:=Lib.hid (IH.out L[j] wo hx1 (by omega) (HS1.out.after hb))
          have HYES:=Lib.hid (fun h=>all_take hlt HO.out h)
          have HNO:Hid (doneF C.sts X.a f L[j]=false→L.all (doneF C.sts X.a f)=false):=Lib.hid (fun h=>List.all_eq_false.2 ⟨L[j],List.getElem_mem hlt,by rw [h]; simp⟩)
          have HB:=Lib.hid hb
          generalize L[j]=x at *
          clear hmc hb hx1 hx2
          cases hd:doneF C.sts X.a f x with
          | true =>
            rw [hd] at HDN
            have HY:=Lib.hid (HYES.out hd)
            clear hd HYES HNO
            go_wp2_with fail
            refine HDN.out.mono ?_
            rintro e w2 ⟨rfl,hb2⟩
            have HB2:=Lib.hid (HB.out.trans (hb2.mono HB.out.size))
            clear hb2
            go_wp2_with fail
            go_roundw
            case rel=>exact ⟨j+1,by omega,by go_num,HB2.out,HY⟩
            case measure=>simp [intOf]; omega
          | false =>
            rw [hd] at HDN
            have HN:=Lib.hid (HNO.out hd)
            clear hd HYES HNO
            go_wp2_with fail
            refine HDN.out.mono ?_
            rintro e w2 ⟨rfl,hb2⟩
            have HB2:=Lib.hid (HB.out.trans (hb2.mono HB.out.size))
            clear hb2
            go_wp2_with fail
            go_ret
            exact ⟨by rw [HR.out,HN.out]; rfl,HB1.out.trans (HB2.out.mono HB1.out.size)⟩
        · obtain rfl:j=L.length:=by omega
          have HO2:Hid (L.all (doneF C.sts X.a f)=true):=Lib.hid (by have:=HO.out; rwa [List.take_length] at this)
          have HB:=Lib.hid hb
          go_wp2_with fail
          go_ret
          exact ⟨by rw [HR.out,HO2.out]; rfl,HB1.out.trans (HB.out.mono HB1.out.size)⟩
    · have h3b:((stAt C.sts (k:Int)).kind == 3)=false:=by simpa using h3
      by_cases h2:(stAt C.sts (k:Int)).kind=2
      · have HR:Hid (doneF C.sts X.a (f+1) (k:Int)=(kids C.sts (k:Int)).any fun x=>hasS X.a x && decide ((stAt C.sts x).kind=4)):=Lib.hid (by rw [doneF,if_pos h2])
        have HK2:=Lib.hid h2
        generalize kids C.sts (k:Int)=L at *
        clear hC hT hS hs hf hst hhas e2 e3 h3 h3b h2
        go_enter Tryz.func69,Tryz.ntmps69
        go_wp2_with fail
        refine HKS.out.mono ?_
        rintro e w1 ⟨hb1,v1,rfl,ho1⟩
        obtain ⟨A1,cap1,rfl,hcap1,he1⟩:=list_of_own ho1
        have HB1:=Lib.hid hb1
        have HE1:=Lib.hid he1
        have HS1:=Lib.hid (HS.out.after hb1)
        obtain ⟨c0,c1,c2,c3,c4⟩:=HST.out.below HS1.out.below hbl
        rw [HK2.out] at c0
        clear hb1 he1 ho1 x0 x1 x2 x3 x4 x5 x6 x7 x8 x9
        obtain ⟨⟨x0,x1,x2,x3,x4⟩,x5,x6,x7,x8,x9⟩:=HS1.out.cells
        go_wp2_with fail
        go_loopw [8] (fun i wr=>∃ j:Nat,j≤L.length∧i=.int .i64 (j:Int)∧Below w1.heap.size w1 wr∧Hid ((L.take j).any (fun x=>hasS X.a x && decide ((stAt C.sts x).kind=4))=false)) (fun i _=>L.length - (intOf i).toNat)
        case atStart=>exact ⟨0,Nat.zero_le _,rfl,Below.refl _ _,Lib.hid (by simp)⟩
        case round =>
          obtain ⟨j,hj,rfl,hb,HO⟩:=hrel
          obtain ⟨wo,rfl⟩:∃ wo:World,wo=wr:=⟨_,rfl⟩
          clear x0 x1 x2 x3 x4 x5 x6 x7 x8 x9 c0 c1 c2 c3 c4
          by_cases hlt:j < L.length
          · obtain ⟨mb,mo,rfl,hmb,hmc⟩:=HE1.out j _ (List.getElem?_eq_getElem hlt)
            have d0:wo.cell? ⟨mb,mo+j,none⟩=some (.int .i64 L[j]):=by have:=IntAt.keeps w1 wo mb _ _ hb hmb hmc; rwa [Nat.mul_one] at this
            obtain ⟨hx1,hx2⟩:=HKID.out L[j] (List.getElem_mem hlt)
            have HNO:=Lib.hid (fun h=>any_take (D:=fun x=>hasS X.a x && decide ((stAt C.sts x).kind=4)) hlt HO.out h)
            have HYES:Hid ((hasS X.a L[j] && decide ((stAt C.sts L[j]).kind=4))=true→L.any (fun x=>hasS X.a x && decide ((stAt C.sts x).kind=4))=true):=Lib.hid (fun h=>List.any_eq_true.2 ⟨L[j],List.getElem_mem hlt,h⟩)
            have HB:=Lib.hid hb
            have HSW:=Lib.hid (HS1.out.after hb)
            obtain ⟨⟨x0,x1,x2,x3,x4⟩,x5,x6,x7,x8,x9⟩:=HSW.out.cells
            generalize L[j]=x at *
            obtain ⟨m,rfl,hm⟩:=isSt_nat hx1
            obtain ⟨b',o',cap2,ui',ue',ux',hsl',_,hbl',hst',hhas'⟩:=HC.out.st hm
            injection hsl' with e1 e2 e3
            injection e1 with e1
            injection e1 with e4 e5
            subst e4; subst e5
            obtain ⟨c0,c1,c2,c3,c4⟩:=hst'.below HSW.out.below hbl'
            obtain ⟨q0,q1⟩:=HSW.out.act.cell hm
            rw [hasS_nat] at HNO HYES
            generalize (stAt C.sts (m:Int)).kind=K at *
            clear hmc hb hx1 hx2 hst' hhas' e2 e3
            cases ha:X.a m with
            | false =>
              rw [ha] at q0 HNO
              clear ha HYES
              go_wp2_with fail
              go_quiet (fail)
              go_wp2_with fail
              go_roundw
              case rel=>exact ⟨j+1,by omega,by go_num,below_drewN HB.out _,Lib.hid (HNO.out rfl)⟩
              case measure=>simp [intOf]; omega
            | true =>
              rw [ha] at q0 HNO HYES
              clear ha
              by_cases hK:K=4
              · subst hK
                go_wp2_with fail
                go_quiet (fail)
                go_wp2_with fail
                go_ret
                exact ⟨by rw [HR.out,HYES.out rfl]; rfl,below_drewN (HB1.out.trans (HB.out.mono HB1.out.size)) _⟩
              · have hK2:(K == 4)=false:=by simpa using hK
                have HN:=Lib.hid (HNO.out (by simpa using hK))
                clear hK HNO HYES
                go_wp2_with fail
                go_quiet (fail)
                go_wp2_with fail
                go_roundw
                case rel=>exact ⟨j+1,by omega,by go_num,below_drewN HB.out _,HN⟩
                case measure=>simp [intOf]; omega
          · obtain rfl:j=L.length:=by omega
            have HO2:Hid (L.any (fun x=>hasS X.a x && decide ((stAt C.sts x).kind=4))=false):=Lib.hid (by have:=HO.out; rwa [List.take_length] at this)
            have HB:=Lib.hid hb
            go_wp2_with fail
            go_ret
            exact ⟨by rw [HR.out,HO2.out]; rfl,HB1.out.trans (HB.out.mono HB1.out.size)⟩
      · have HR:Hid (doneF C.sts X.a (f+1) (k:Int)=false):=Lib.hid (by rw [doneF,if_neg h2,if_neg h3])
        have h2b:((stAt C.sts (k:Int)).kind != 2)=true:=by simpa using h2
        generalize kids C.sts (k:Int)=L at *
        clear hC hT hS hs hf hhas e2 e3 h3 h2
        go_enter Tryz.func69,Tryz.ntmps69
        go_wp2_with fail
        refine HKS.out.mono ?_
        rintro e w1 ⟨hb1,v1,rfl,ho1⟩
        have HB1:=Lib.hid hb1
        have HS1:=Lib.hid (HS.out.after hb1)
        obtain ⟨A1,cap1,rfl,hcap1,he1⟩:=list_of_own ho1
        obtain ⟨c0,c1,c2,c3,c4⟩:=HST.out.below HS1.out.below hbl
        generalize (stAt C.sts (k:Int)).kind=K at *
        clear hb1 he1 ho1 hst x0 x1 x2 x3 x4 x5 x6 x7 x8 x9
        obtain ⟨⟨x0,x1,x2,x3,x4⟩,x5,x6,x7,x8,x9⟩:=HS1.out.cells
        go_wp2_with fail
        go_ret
        exact ⟨by rw [HR.out]; rfl,HB1.out⟩
end
end Go.Proofs.YtfgkcjmeiabdjaaGreatDoor
/- The contract of the document's session: enter. -/
namespace Go.Proofs.YtfgkcjmeiabdjaaGreatDoor
open Go.ChangeShapes Go.WideShapes Go.ChangeAt Go.RowKit
set_option linter.unusedVariables false

theorem acts12_of (C:Ch) (hF:fewB C=true) (s:Int):((stAt C.sts s).ent.length≤40∧∀ a ∈ (stAt C.sts s).ent,a.expr.size≤1000000)∧((stAt C.sts s).exi.length≤40∧∀ a ∈ (stAt C.sts s).exi,a.expr.size≤1000000):=by
  unfold stAt
  rcases Nat.lt_or_ge s.toNat C.sts.length with hk | hk
  · have:=(few_parts hF).2.2.1 s.toNat hk
    unfold fewStB at this
    simp only [Bool.and_eq_true,decide_eq_true_eq] at this
    exact ⟨of_fewActs this.1.1,of_fewActs this.1.2⟩
  · rw [List.getD_eq_getElem?_getD,List.getElem?_eq_none hk]
    exact ⟨⟨by decide,fun a ha=>by cases ha⟩,⟨by decide,fun a ha=>by cases ha⟩⟩
theorem entLate_lim {S:List St} (hA:∀ s,(stAt S s).ent.length≤40) {n:Nat} {X:Se} (P:Nat→Bool) (h:Lim n X):∀ k:Nat,Lim (n+3 * k) (entLate S P k X)
  | 0=>h
  | k+1=>by
    have ih:=entLate_lim hA P h k
    rw [entLate]
    split
    · exact (enS_lim hA _ ih).mono (by omega)
    · exact ih.mono (by omega)
section
variable {w0:World} {g ba:Nat} {vs vt:Value} {C:Ch} {fu:Int} {w w':World} {vh ve vi vo:Value} {X:Se}
set_option maxHeartbeats 8000000 in
set_option maxRecDepth 100000 in
theorem renterS_any (hC:ChHas w0 vs vt C) (hT:Tame C.sts) (hF:fewB C=true) (hS:DeAt w0 g ba vs vt C fu w vh ve vi vo X) {q:Nat} (hX:Lim q X) (hq:q≤5000) (n:Nat) (hn:n < 4294967296) :
    Calls Tryz.prog 28 #[.pointer (some ⟨g,0,none⟩),.int .u32 (n:Int)] w (DePost w0 g ba vs vt C fu (entLate C.sts (bitN n) C.sts.length X)):=by
  obtain ⟨i0,hi,hz0,hz1,hz2⟩:=info_parts Tryz.info3
  have HI:=Lib.hid hi
  have HZ0:=Lib.hid hz0
  have HZ1:=Lib.hid hz1
  have HZ2:=Lib.hid hz2
  have hlen:=hT.len
  obtain ⟨sA,scap,tA,tcap,rfl,rfl⟩:=hC.slices
  have HC:=Lib.hid hC
  have HT:=Lib.hid hT
  have HS:=Lib.hid hS
  have HHAS:Hid (∀ (k:Nat) (hk:k≤31) (W:World),Calls Tryz.prog 38 #[.int .u32 (n:Int),.int .i64 (k:Int)] W fun e w'=>e=.returned (.bool (bitN n k))∧W=w'):=Lib.hid (fun (k:Nat) (hk:k≤31) (W:World)=>hasBit_any n k hn (by omega) W)
  have HU:Hid (∀ k,entLate C.sts (bitN n) (k+1) X=if bitN n k=true∧(entLate C.sts (bitN n) k X).a k=false then enS C.sts (k:Int) (entLate C.sts (bitN n) k X) else entLate C.sts (bitN n) k X):=Lib.hid fun k=>rfl
  have HUL:Hid (∀ k,Lim (q+3 * k) (entLate C.sts (bitN n) k X)):=Lib.hid fun k=>entLate_lim (fun s=>(acts12_of C hF s).1.1) (bitN n) hX k
  have HU0:Hid (entLate C.sts (bitN n) 0 X=X):=Lib.hid rfl
  have HACT:=Lib.hid (fun s=>(acts12_of C hF s).1)
  generalize entLate C.sts (bitN n)=U at *
  clear hC hT hF hS hX hi hz0 hz1 hz2
  go_enter Tryz.func28,Tryz.ntmps28
  go_wp2_with fail
  go_loopw [4] (fun i wr=>∃ (k:Nat) (vh2 ve2 vi2 vo2:Value),k≤C.sts.length∧i=.int .i64 (k:Int)∧Hid (DeAt w0 g ba (.slice sA C.sts.length scap) (.slice tA C.trs.length tcap) C fu wr vh2 ve2 vi2 vo2 (U k X))) (fun i _=>C.sts.length - (intOf i).toNat)
  case atStart=>exact ⟨0,_,_,_,_,Nat.zero_le _,rfl,Lib.hid (by rw [HU0.out]; exact HS.out)⟩
  case round =>
    clear HS HU0
    obtain ⟨k,vh2,ve2,vi2,vo2,hk,rfl,HSK⟩:=hrel
    obtain ⟨wo,rfl⟩:∃ wo:World,wo=wr:=⟨_,rfl⟩
    have hu:=HU.out k
    have HLK:=Lib.hid (HUL.out k)
    obtain ⟨⟨x0,x1,x2,x3,x4⟩,x5,x6,x7,x8,x9⟩:=HSK.out.cells
    by_cases hlt:k < C.sts.length
    · have hhas:=HHAS.out k (by omega)
      obtain ⟨q0,q1⟩:=HSK.out.act.cell hlt
      have HY:Hid (∃ Y,U k X=Y):=Lib.hid ⟨_,rfl⟩
      obtain ⟨Y,hY⟩:=HY.out
      rw [hY] at HSK HLK q0 hu
      cases hb:bitN n k with
      | false =>
        rw [hb,if_neg (by simp)] at hu
        have HHB:=Lib.hid hhas
        have HUK:=Lib.hid hu
        rw [hb] at HHB
        clear hb hu hY hhas
        go_wp2_with fail
        refine (HHB.out _).mono ?_
        rintro e w2 ⟨rfl,rfl⟩
        go_wp2_with fail
        go_roundw
        case rel=>exact ⟨k+1,_,_,_,_,by omega,by go_num,Lib.hid (by rw [HUK.out]; exact HSK.out)⟩
        case measure=>simp [intOf]; omega
      | true =>
        have HHB:=Lib.hid hhas
        rw [hb] at HHB
        cases ha:Y.a k with
        | true =>
          rw [ha,if_neg (by simp)] at hu
          rw [ha] at q0
          have HUK:=Lib.hid hu
          clear hb hu hY ha hhas
          go_wp2_with fail
          refine (HHB.out _).mono ?_
          rintro e w2 ⟨rfl,rfl⟩
          go_wp2_with fail
          go_roundw
          case rel=>exact ⟨k+1,_,_,_,_,by omega,by go_num,Lib.hid (by rw [HUK.out]; exact HSK.out)⟩
          case measure=>simp [intOf]; omega
        | false =>
          rw [hb,ha,if_pos ⟨rfl,rfl⟩] at hu
          rw [ha] at q0
          have HUK:=Lib.hid hu
          obtain ⟨b,o,cap',ui,ue,ux,hsl,_,hbl,hst,hh⟩:=HC.out.st hlt
          injection hsl with e1 e2 e3
          subst e1
          have HST:=Lib.hid hst
          have HHS:=Lib.hid hh
          obtain ⟨iA,icap,eA,ecap,xA,xcap,rfl,rfl,rfl⟩:=hh.slices
          have HS1:=Lib.hid (HSK.out.putT k)
          obtain ⟨c0,c1,c2,c3,c4⟩:=HST.out.below HS1.out.below hbl
          have hne:=HSK.out.ne
          obtain ⟨⟨y0,y1,y2,y3,y4⟩,y5,y6,y7,y8,y9⟩:=HS1.out.cells
          have HX1:=Lib.hid (putA_lim HLK.out (addS Y.a (k:Int)))
          have HAC:=Lib.hid (ractsS_any HS1.out HX1.out (by omega) _ (stAt C.sts (k:Int)).ent (HHS.out.2.1.below HS1.out.below) (HACT.out (k:Int)).1 (HACT.out (k:Int)).2)
          have HXD:=Lib.hid (doS_lim HX1.out (HACT.out (k:Int)).1)
          obtain ⟨Z,hZ⟩:∃ Z,doS (stAt C.sts (k:Int)).ent (Y.putA (addS Y.a (k:Int)))=Z:=⟨_,rfl⟩
          have HEN:Hid (enS C.sts (k:Int) Y=if (stAt C.sts (k:Int)).kind=4 then finS C.sts (stAt C.sts (k:Int)).par Z else Z):=Lib.hid (by rw [← hZ]; rfl)
          rw [hZ] at HAC HXD
          clear hb hu hY ha hhas hst hh e2 e3 hZ
          go_wp2_with fail
          refine (HHB.out _).mono ?_
          rintro e w2 ⟨rfl,rfl⟩
          go_wp2_with fail
          refine HAC.out.mono ?_
          rintro e w3 ⟨rfl,vh3,ve3,vi3,vo3,hs3⟩
          have HS3:=Lib.hid hs3
          clear hs3 x0 x1 x2 x3 x4 x5 x6 x7 x8 x9 y0 y1 y2 y3 y4 y5 y6 y7 y8 y9 c0 c1 c2 c3 c4 q0 q1
          obtain ⟨⟨x0,x1,x2,x3,x4⟩,x5,x6,x7,x8,x9⟩:=HS3.out.cells
          obtain ⟨z4,z5,z6,z7,z8⟩:=HS3.out.froz
          obtain ⟨c0,c1,c2,c3,c4⟩:=HST.out.below HS3.out.below hbl
          by_cases hk4:(stAt C.sts (k:Int)).kind=4
          · have hk0:0 < (k:Int):=by
              rcases Nat.eq_zero_or_pos k with h | h
              · subst h
                have:=HT.out.first
                rw [show (((0:Nat):Int))=0 from rfl,this] at hk4
                omega
              · omega
            have hup:=HT.out.up (k:Int) (isSt_of hlt) hk0
            have hpe:=HT.out.par (k:Int) (isSt_of hlt)
            obtain ⟨u1,u2,u3⟩:=cUp_pos hup
            obtain ⟨p,hp⟩:∃ p:Nat,(stAt C.sts (k:Int)).par=(p:Int):=⟨(stAt C.sts (k:Int)).par.toNat,by omega⟩
            have hpl:p < C.sts.length:=by omega
            rw [hk4] at c0
            rw [hp] at c1
            have HEN2:Hid (U (k+1) X=finS C.sts (p:Int) Z):=Lib.hid (by rw [HUK.out,HEN.out,if_pos hk4,hp])
            clear hup hpe u1 u2 u3 hp hk4 HEN HUK
            by_cases hp0:p=0
            · subst hp0
              have HR:Hid (U (k+1) X=Z.putSt 2):=Lib.hid (by rw [HEN2.out]; unfold finS; rw [if_pos (by simp)])
              have HS4:=Lib.hid (HS3.out.putSt 2)
              clear HEN2
              go_wp2_with fail
              go_roundw
              case rel=>exact ⟨k+1,_,_,_,_,by omega,by go_num,Lib.hid (by rw [HR.out]; exact HS4.out)⟩
              case measure=>simp [intOf]; omega
            · have hp0b:((p:Int) == 0)=false:=by simp; omega
              have hup:=HT.out.up (p:Int) (isSt_of hpl) (by omega)
              have hpe:=HT.out.par (p:Int) (isSt_of hpl)
              obtain ⟨u1,u2,u3⟩:=cUp_pos hup
              obtain ⟨d,hd⟩:∃ d:Nat,(stAt C.sts (p:Int)).par=(d:Int):=⟨(stAt C.sts (p:Int)).par.toNat,by omega⟩
              have hdl:d < C.sts.length:=by omega
              have hil:=HXD.out.ins
              have HRF:Hid (U (k+1) X=if (stAt C.sts (d:Int)).kind=3∧doneF C.sts Z.a (C.sts.length+1) (d:Int)=true then (Z.addIn (2000+(p:Int))).addIn (2000+(d:Int)) else Z.addIn (2000+(p:Int))):=Lib.hid (by rw [HEN2.out]; unfold finS; rw [if_neg (by omega),hd]; rfl)
              obtain ⟨b5,o5,cap5,ui5,ue5,ux5,hsl5,_,hbl5,hst5,hh5⟩:=HC.out.st hpl
              injection hsl5 with e1 e2 e3
              injection e1 with e1
              injection e1 with e4 e5
              subst e4; subst e5
              obtain ⟨b6,o6,cap6,ui6,ue6,ux6,hsl6,_,hbl6,hst6,hh6⟩:=HC.out.st hdl
              injection hsl6 with e1 e21 e31
              injection e1 with e1
              injection e1 with e4 e5
              subst e4; subst e5
              have HS4:=Lib.hid (HS3.out.after (below_box w3 (.cells #[.int .i64 (2000+(p:Int))] 3)))
              have HR4:=Lib.hid (rowI_one w3 (2000+(p:Int)))
              have HT5:=Lib.hid hst5
              have HT6:=Lib.hid hst6
              have HD:=Lib.hid hd
              clear hup hpe u1 u2 u3 HEN2 hst5 hst6 hh5 hh6 e2 e3 e21 e31 hd
              go_wp2_with (at_builtin; refine wpList_append_row3 rfl _ _ 36 rfl w0.heap.size 3 i0 (.int .i64 0) 1 8 Tryz.underlying36 HI.out HZ0.out HZ1.out HZ2.out rfl (by decide) _ Z.ins.length (intVals Z.ins) rfl HS4.out.rows.ins _ 1 [.int .i64 (2000+(p:Int))] rfl HR4.out (Below.refl _ _) ?c3 ?c4 ?c5 ?_)
              case c3=>unfold maxLen; omega
              case c4=>omega
              case c5=>simpa using HS4.out.lt
              intro v5 w5 hown5 hgrow5 h5
              obtain ⟨A5,cap5,rfl⟩:=own_slice hown5
              have HS5:Hid (DeAt w0 g ba (.slice (some ⟨b,o,none⟩) C.sts.length scap) (.slice tA C.trs.length tcap) C fu (w5.setCell ⟨g,6,none⟩ (.slice A5 (Z.ins.length+1) cap5)) vh3 ve3 (.slice A5 (Z.ins.length+1) cap5) vo3 (Z.addIn (2000+(p:Int)))):=Lib.hid (HS4.out.growI (L:=[2000+(p:Int)]) hgrow5 hown5)
              have HB5:=Lib.hid (blk_grown HS4.out.blk HS4.out.rows.ins (by decide) hgrow5)
              have y1:w5.cell? ⟨g,1,none⟩=some (.slice (some ⟨b,o,none⟩) C.sts.length scap):=HB5.out.cell 1
              have y6:w5.cell? ⟨g,6,none⟩=some vi3:=HB5.out.cell 6
              have r6:=HB5.out.frozen 6
              clear c0 c1 c2 c3 c4
              obtain ⟨c0,c1,c2,c3,c4⟩:=HT5.out.below HS5.out.below hbl5
              obtain ⟨d0,d1,d2,d3,d4⟩:=HT6.out.below HS5.out.below hbl6
              rw [HD.out] at c1
              clear hown5 hgrow5 h5 x0 x1 x2 x3 x4 x5 x6 x7 x8 x9 z4 z5 z6 z7 z8
              by_cases hk3:(stAt C.sts (d:Int)).kind=3
              · have HDN:=Lib.hid (rdone_ok HC.out HT.out (C.sts.length+1) (d:Int) _ (isSt_of hdl) (by omega) HS5.out)
                have HZA:Hid ((Z.addIn (2000+(p:Int))).a=Z.a):=Lib.hid rfl
                rw [HZA.out] at HDN
                rw [hk3] at d0
                cases hdn:doneF C.sts Z.a (C.sts.length+1) (d:Int) with
                | true =>
                  have HR:Hid (U (k+1) X=(Z.addIn (2000+(p:Int))).addIn (2000+(d:Int))):=Lib.hid (by rw [HRF.out,if_pos ⟨hk3,hdn⟩])
                  rw [hdn] at HDN
                  clear hk3 hdn HRF HZA
                  go_wp2_with fail
                  refine HDN.out.mono ?_
                  rintro e w6 ⟨rfl,hb6⟩
                  have HS6:=Lib.hid (HS5.out.after hb6)
                  have HS7:=Lib.hid (HS6.out.after (below_box w6 (.cells #[.int .i64 (2000+(d:Int))] 3)))
                  have HR7:=Lib.hid (rowI_one w6 (2000+(d:Int)))
                  obtain ⟨⟨x0,x1,x2,x3,x4⟩,x5,x6,x7,x8,x9⟩:=HS6.out.cells
                  clear hb6 y1 y6 r6 c0 c1 c2 c3 c4 d0 d1 d2 d3 d4
                  go_wp2_with (at_builtin; refine wpList_append_row3 rfl _ _ 36 rfl w0.heap.size 3 i0 (.int .i64 0) 1 8 Tryz.underlying36 HI.out HZ0.out HZ1.out HZ2.out rfl (by decide) _ (Z.addIn (2000+(p:Int))).ins.length (intVals (Z.addIn (2000+(p:Int))).ins) rfl HS7.out.rows.ins _ 1 [.int .i64 (2000+(d:Int))] rfl HR7.out (Below.refl _ _) ?c3 ?c4 ?c5 ?_)
                  case c3=>unfold maxLen; show (Z.ins ++ [_]).length+1≤_; rw [List.length_append,List.length_singleton]; omega
                  case c4=>show ((Z.ins ++ [_]).length+1) * 8≤_; rw [List.length_append,List.length_singleton]; omega
                  case c5=>simpa using HS7.out.lt
                  intro v8 w8 hown8 hgrow8 h8
                  obtain ⟨A8,cap8,rfl⟩:=own_slice hown8
                  have HS8:Hid (DeAt w0 g ba (.slice (some ⟨b,o,none⟩) C.sts.length scap) (.slice tA C.trs.length tcap) C fu (w8.setCell ⟨g,6,none⟩ (.slice A8 ((Z.addIn (2000+(p:Int))).ins.length+1) cap8)) vh3 ve3 (.slice A8 ((Z.addIn (2000+(p:Int))).ins.length+1) cap8) vo3 ((Z.addIn (2000+(p:Int))).addIn (2000+(d:Int)))):=Lib.hid (HS7.out.growI (L:=[2000+(d:Int)]) hgrow8 hown8)
                  have HB8:=Lib.hid (blk_grown HS7.out.blk HS7.out.rows.ins (by decide) hgrow8)
                  have y6:w8.cell? ⟨g,6,none⟩=some (.slice A5 (Z.ins.length+1) cap5):=HB8.out.cell 6
                  have r6:=HB8.out.frozen 6
                  clear hown8 hgrow8 h8 x0 x1 x2 x3 x4 x5 x6 x7 x8 x9
                  go_wp2_with fail
                  go_roundw
                  case rel=>exact ⟨k+1,_,_,_,_,by omega,by go_num,Lib.hid (by rw [HR.out]; exact HS8.out)⟩
                  case measure=>simp [intOf]; omega
                | false =>
                  have HR:Hid (U (k+1) X=Z.addIn (2000+(p:Int))):=Lib.hid (by rw [HRF.out,if_neg (by rw [hdn]; simp)])
                  rw [hdn] at HDN
                  clear hk3 hdn HRF HZA
                  go_wp2_with fail
                  refine HDN.out.mono ?_
                  rintro e w6 ⟨rfl,hb6⟩
                  have HS6:=Lib.hid (HS5.out.after hb6)
                  clear hb6 y1 y6 r6 c0 c1 c2 c3 c4 d0 d1 d2 d3 d4
                  go_wp2_with fail
                  go_roundw
                  case rel=>exact ⟨k+1,_,_,_,_,by omega,by go_num,Lib.hid (by rw [HR.out]; exact HS6.out)⟩
                  case measure=>simp [intOf]; omega
              · have hk3b:((stAt C.sts (d:Int)).kind != 3)=true:=by simpa using hk3
                have HR:Hid (U (k+1) X=Z.addIn (2000+(p:Int))):=Lib.hid (by rw [HRF.out,if_neg (fun h=>hk3 h.1)])
                generalize (stAt C.sts (d:Int)).kind=K at *
                clear hk3 HRF
                go_wp2_with fail
                go_roundw
                case rel=>exact ⟨k+1,_,_,_,_,by omega,by go_num,Lib.hid (by rw [HR.out]; exact HS5.out)⟩
                case measure=>simp [intOf]; omega
          · have hk4b:((stAt C.sts (k:Int)).kind != 4)=true:=by simpa using hk4
            have HR:Hid (U (k+1) X=Z):=Lib.hid (by rw [HUK.out,HEN.out,if_neg hk4])
            clear hk4 HEN HUK
            go_wp2_with fail
            go_roundw
            case rel=>exact ⟨k+1,_,_,_,_,by omega,by go_num,Lib.hid (by rw [HR.out]; exact HS3.out)⟩
            case measure=>simp [intOf]; omega
    · obtain rfl:k=C.sts.length:=by omega
      go_wp2_with fail
      go_end0
      exact .of rfl rfl HSK.out
end
end Go.Proofs.YtfgkcjmeiabdjaaGreatDoor
/- The contracts of the document's Row and Of: the session at the beginning. -/
namespace Go.Proofs.YtfgkcjmeiabdjaaGreatDoor
open Go.ChangeShapes Go.WideShapes Go.ChangeAt Go.RowKit
set_option linter.unusedVariables false

set_option maxHeartbeats 4000000 in
set_option maxRecDepth 100000 in
theorem rowA_any (vr:Int) (vs vt:Value) (C:Ch) (n:Nat) (w:World) (hC:ChHas w vs vt C) (hl:C.sts.length≤31) (hn:n < 4294967296) :
    Calls Tryz.prog 67 #[.agg #[.int .i64 vr,vs,vt],.int .u32 (n:Int)] w fun e w'=>Below w.heap.size w w'∧∃ b,e=.returned (.slice (some ⟨b,0,none⟩) C.sts.length C.sts.length)∧w.heap.size≤b∧TruAt w' b C.sts.length (bitN n):=by
  obtain ⟨i1,hi1,hz1,hs1,hy1⟩:=info_parts Tryz.info4
  have HMK:Hid (∀ W:World,(Instr.makeSlice 48 (.int .i64 (C.sts.length:Int)) (.int .i64 (C.sts.length:Int))).run Tryz.prog W=.ok (.slice (some ⟨W.heap.size,0,none⟩) C.sts.length C.sts.length) (W.alloc (.cells (madeCells #[.bool false] C.sts.length) 4))):=Lib.hid (fun W=>by
    have:=run_make (P:=Tryz.prog) W 48 4 i1 (.bool false) Tryz.underlying48 hi1 hz1 .i64 .i64 (C.sts.length:Int) (C.sts.length:Int) (by omega) (by omega) (by rw [hy1]; omega) (by omega)
    rw [hs1] at this
    simpa [Value.cells] using this)
  obtain ⟨sA,scap,tA,tcap,rfl,rfl⟩:=hC.slices
  have HHAS:Hid (∀ (k:Nat) (hk:k≤31) (W:World),Calls Tryz.prog 38 #[.int .u32 (n:Int),.int .i64 (k:Int)] W fun e w'=>e=.returned (.bool (bitN n k))∧W=w'):=Lib.hid (fun (k:Nat) (hk:k≤31) (W:World)=>hasBit_any n k hn (by omega) W)
  have hmk:=HMK.out
  have HB0:=Lib.hid ((below_box w (chBox vr (.slice sA C.sts.length scap) (.slice tA C.trs.length tcap))).alloc (by simp) (.cells (madeCells #[.bool false] C.sts.length) 4))
  have HT0:Hid (TruAt ((w.alloc (chBox vr (.slice sA C.sts.length scap) (.slice tA C.trs.length tcap))).alloc (.cells (madeCells #[.bool false] C.sts.length) 4)) (w.heap.size+1) C.sts.length (fun k=>decide (k < 0) && bitN n k)):=Lib.hid ⟨_,Blk.new_at _ _ _ _ (by simp),by simp [madeCells],fun i hi=>by simp [madeCells,hi,Nat.mod_one]⟩
  clear hC hi1 hz1 hs1 hy1
  go_enter Tryz.func67,Tryz.ntmps67
  go_wp2_with fail
  go_loopw [6] (fun i wr=>∃ k:Nat,k≤C.sts.length∧i=.int .i64 (k:Int)∧Hid (Below w.heap.size w wr)∧Hid (TruAt wr (w.heap.size+1) C.sts.length (fun j=>decide (j < k) && bitN n j))) (fun i _=>C.sts.length - (intOf i).toNat)
  case atStart=>exact ⟨0,Nat.zero_le _,rfl,HB0,HT0⟩
  case round =>
    clear HB0 HT0 hmk
    obtain ⟨k,hk,rfl,HB,HT⟩:=hrel
    obtain ⟨wo,rfl⟩:∃ wo:World,wo=wr:=⟨_,rfl⟩
    by_cases hlt:k < C.sts.length
    · have hhas:=HHAS.out k (by omega)
      obtain ⟨q0,q1⟩:=HT.out.cell hlt
      have HT2:=Lib.hid (HT.out.put k (bitN n k) (fun j=>decide (j < k+1) && bitN n j) (fun i hi=>by
        by_cases hik:i=k
        · subst hik; simp
        · rw [if_neg hik]
          have:decide (i < k+1)=decide (i < k):=by simp; omega
          rw [this]))
      have HB2:=Lib.hid (HB.out.setCell (p:=⟨w.heap.size+1,k,none⟩) (by simp) (.bool (bitN n k)))
      generalize bitN n k=x at *
      have HHK:=Lib.hid hhas
      clear hhas
      go_wp2_with fail
      refine (HHK.out _).mono ?_
      rintro e w2 ⟨rfl,rfl⟩
      go_wp2_with fail
      go_roundw
      case rel=>exact ⟨k+1,by omega,by go_num,HB2,HT2⟩
      case measure=>simp [intOf]; omega
    · obtain rfl:k=C.sts.length:=by omega
      go_wp2_with fail
      go_ret
      obtain ⟨cur,h1,h2,h3⟩:=HT.out
      exact ⟨HB.out,_,rfl,by simp,cur,h1,h2,fun i hi=>by rw [h3 i hi]; simp [hi]⟩
end Go.Proofs.YtfgkcjmeiabdjaaGreatDoor
