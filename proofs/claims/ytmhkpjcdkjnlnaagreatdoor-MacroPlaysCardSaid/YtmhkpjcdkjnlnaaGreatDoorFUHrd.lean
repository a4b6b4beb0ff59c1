/- The contracts of leave's functions: bit, isHistory, transOf, goalsOf, areIn, Reach, Set, Clash. -/
import Derived.Test.YtmhkpjcdkjnlnaaGreatDoorFUHpure
import Derived.Test.YtmhkpjcdkjnlnaaGreatDoorFUCact
namespace Go.Proofs.YtmhkpjcdkjnlnaaGreatDoor
open Go.ChangeShapes Go.WideShapes Go.ChangeAt Go.RowKit
set_option linter.unusedVariables false

theorem bitL_any (k:Nat) (hk:k≤31) (w:World):Calls Tryz.prog 167 #[.int .i64 (k:Int)] w fun e w'=>e=.returned (.int .u32 ((2 ^ k:Nat):Int))∧w=w':=by
 have h0:decide ((k:Int) < 0)=false:=by simp
 go_enter Tryz.func167,Tryz.ntmps167
 go_wp2_with fail
 go_ret
 refine ⟨ret_int ?_,rfl⟩
 have h1:(2:Nat) ^ k≤2 ^ 31:=Nat.pow_le_pow_right (by decide) hk
 have h2:((2:Int) ^ k)=((2 ^ k:Nat):Int):=by simp
 rw [show (2:Nat) ^ 31=2147483648 by decide] at h1
 rw [h2]
 generalize 2 ^ k=m at *
 omega
theorem isHistL_any (K:Int) (w:World):Calls Tryz.prog 209 #[.int .i64 K] w fun e w'=>e=.returned (.bool (histB K))∧w=w':=by
 by_cases h:K=5
 · subst h
   go_enter Tryz.func209,Tryz.ntmps209
   go_wp2_with fail
   go_ret
   exact ⟨rfl,rfl⟩
 · have h2:(K == 5)=false:=by simpa using h
   go_enter Tryz.func209,Tryz.ntmps209
   go_wp2_with fail
   go_ret
   exact ⟨ret_bool (by unfold histB; simp [h]; rfl),rfl⟩
def goalOf (S:List St) (s:Int):Int:=if histB (kindT S s)=true then cUp S s else s
def goalsL (S:List St) (l:List Int):List Int:=l.map (goalOf S)
theorem goalsL_len (S:List St) (l:List Int):(goalsL S l).length=l.length:=by simp [goalsL]
theorem kindT_hist {S:List St} {s:Int} (h:histB (kindT S s)=true):isSt S s=true∧kindT S s=(stAt S s).kind:=by
 unfold kindT at h ⊢
 cases hs:isSt S s with
 | true=>exact ⟨rfl,if_pos rfl⟩
 | false=>rw [hs] at h; simp [histB] at h
theorem hist_up {S:List St} (ht:Tame S) {s:Int} (h:histB (kindT S s)=true):0≤cUp S s:=by
 obtain ⟨h1,h2⟩:=kindT_hist h
 have hr:=isSt_iff.1 h1
 have hne:s ≠ 0:=by
  intro h0
  subst h0
  rw [h2,ht.first] at h
  simp [histB] at h
 exact ht.up s h1 (by omega)
theorem ups_head {S:List St} {s:Int} (h:0≤cUp S s):(ups S s)[0]?=some (cUp S s):=by
 unfold ups
 rw [upsF,if_neg (by omega)]
 rfl
set_option maxHeartbeats 2000000 in
set_option maxRecDepth 100000 in
theorem goals_any (g:Nat) (v:Value) (L:List Int) (C:Ch) (w:World) (hT:TreeAt w g C) (hta:Tame C.sts) (hR:Rooted C.sts) (hv:ListAt w v L) (hL:L.length≤1000) :
 Calls Tryz.prog 190 #[.pointer (some ⟨g,0,none⟩),v] w (KPost (goalsL C.sts L) w):=by
 obtain ⟨i0,hi,hz0,hz1,hz2⟩:=info_parts Tryz.info3
 have HI:=Lib.hid hi
 have HZ0:=Lib.hid hz0
 have HZ1:=Lib.hid hz1
 have HZ2:=Lib.hid hz2
 have HKD:=Lib.hid (fun (W:World) (h:Below w.heap.size w W) (s:Int)=>kindT_any g s C W (hT.below h) (by have:=hta.len; omega))
 have HUP:=Lib.hid (fun (W:World) (h:Below w.heap.size w W) (s:Int)=>upsT_any g s C W (hT.below h) (by have:=hta.len; omega) hR)
 have HTA:=Lib.hid hta
 have HGL:=Lib.hid (fun l=>goalsL_len C.sts l)
 obtain ⟨A,cap,rfl,hcap,he⟩:=hv
 have HE:=Lib.hid he
 clear hi hz0 hz1 hz2 he hT hR hta
 go_enter Tryz.func190,Tryz.ntmps190
 go_wp2_with fail
 go_loopw [5,10] (fun v i wr=>∃ k:Nat,k≤L.length∧i=.int .i64 (k:Int)∧Below w.heap.size w wr∧Hid (wr.ownsRow w.heap.size 3 1 v (goalsL C.sts (L.take k)).length (intVals (goalsL C.sts (L.take k))))) (fun _ i _=>L.length - (intOf i).toNat)
 case atStart=>exact ⟨0,Nat.zero_le _,rfl,Below.refl _ _,Lib.hid (World.ownsRow_nil _ _ _ _)⟩
 case round =>
  obtain ⟨k,hk,rfl,hb,hown⟩:=hrel
  obtain ⟨wo,rfl⟩:∃ wo:World,wo=wr:=⟨_,rfl⟩
  have HB:=Lib.hid hb
  by_cases hlt:k < L.length
  · obtain ⟨b,o,rfl,hbl,hc⟩:=HE.out k _ (List.getElem?_eq_getElem hlt)
    have c0:wo.cell? ⟨b,o+k,none⟩=some (.int .i64 L[k]):=by have:=IntAt.keeps w wo b _ _ hb hbl hc; rwa [Nat.mul_one] at this
    have hgl:(goalsL C.sts (L.take k)).length≤1000:=by rw [HGL.out,List.length_take]; omega
    have HSN:Hid (goalsL C.sts (L.take (k+1))=goalsL C.sts (L.take k) ++ [goalOf C.sts L[k]]):=Lib.hid (by unfold goalsL; rw [List.take_succ_eq_append_getElem hlt,List.map_append]; rfl)
    have hbs:w.heap.size≤wo.heap.size:=hb.size
    generalize L[k]=x at *
    generalize goalsL C.sts (L.take k)=G at *
    clear hc hb
    cases hh:histB (kindT C.sts x) with
    | true =>
     have HH:=Lib.hid hh
     have hup:=hist_up HTA.out hh
     have HU0:=Lib.hid (ups_head hup)
     have HGO:Hid (goalOf C.sts x=cUp C.sts x):=Lib.hid (by unfold goalOf; rw [if_pos hh])
     have hul:0 < (ups C.sts x).length:=(List.getElem?_eq_some_iff.1 (ups_head hup)).1
     clear hh hup
     go_wp2_with fail
     refine (HKD.out wo HB.out x).mono ?_
     rintro e w1 ⟨rfl,rfl⟩
     go_wp2_with fail
     refine (isHistL_any _ _).mono ?_
     rintro e w1 ⟨rfl,rfl⟩
     rw [HH.out]
     go_wp2_with fail
     refine (HUP.out wo HB.out x).mono ?_
     rintro e w1 ⟨hb1,v1,rfl,ho1⟩
     obtain ⟨A1,cap1,rfl,hcap1,he1⟩:=list_of_own ho1
     obtain ⟨b1,o1,rfl,hbl1,hc1⟩:=he1 0 _ HU0.out
     have d0:w1.cell? ⟨b1,o1,none⟩=some (.int .i64 (cUp C.sts x)):=by have:=hc1; unfold IntAt at this; rwa [Nat.zero_mul,Nat.add_zero] at this
     have HB1:=Lib.hid (HB.out.trans (hb1.mono HB.out.size))
     have HO1:=Lib.hid (own_below hown.out hb1)
     have hbs1:w.heap.size≤w1.heap.size:=HB1.out.size
     generalize cUp C.sts x=y at *
     generalize (ups C.sts x).length=ul at *
     clear hb1 ho1 he1 hc1 c0
     go_wp2_with (at_builtin; refine wpList_append_own_at _ rfl _ _ 36 rfl (w.heap.size) 3 i0 (.int .i64 0) 1 8 Tryz.underlying36 HI.out HZ0.out HZ1.out HZ2.out rfl (by decide) _ _ _ rfl (HO1.out.alloc _) ⟨w1.heap.size,0,none⟩ 1 1 [.int .i64 y] rfl rfl ?c1 ?c2 ?c3 ?c4 ?c5 ?_)
     case c1=>exact new_val _ _ _ _ (by simp)
     case c2=>exact int_one _
     case c3=>unfold maxLen; omega
     case c4=>omega
     case c5=>simp; omega
     intro v' w2 hown' hgrow _ _
     have HG:=Lib.hid (Below.grown (HB1.out.alloc HB1.out.size _) hgrow (by simp; omega) (fun g hg=>by have:=(HO1.out.lt g hg).1; simpa using this))
     have HO':=Lib.hid hown'
     clear hown' hgrow
     go_wp2_with fail
     go_roundw
     case rel=>exact ⟨k+1,by omega,by go_num,HG.out,Lib.hid (by rw [HSN.out,HGO.out,intVals_snoc]; simpa using HO'.out)⟩
     case measure=>simp [intOf]; omega
    | false =>
     have HH:=Lib.hid hh
     have HGO:Hid (goalOf C.sts x=x):=Lib.hid (by unfold goalOf; rw [if_neg (by rw [hh]; simp)])
     clear hh
     go_wp2_with fail
     refine (HKD.out wo HB.out x).mono ?_
     rintro e w1 ⟨rfl,rfl⟩
     go_wp2_with fail
     refine (isHistL_any _ _).mono ?_
     rintro e w1 ⟨rfl,rfl⟩
     rw [HH.out]
     go_wp2_with (at_builtin; refine wpList_append_own_at _ rfl _ _ 36 rfl (w.heap.size) 3 i0 (.int .i64 0) 1 8 Tryz.underlying36 HI.out HZ0.out HZ1.out HZ2.out rfl (by decide) _ _ _ rfl (hown.out.alloc _) ⟨wo.heap.size,0,none⟩ 1 1 [.int .i64 x] rfl rfl ?c1 ?c2 ?c3 ?c4 ?c5 ?_)
     case c1=>exact new_val _ _ _ _ (by simp)
     case c2=>exact int_one _
     case c3=>unfold maxLen; omega
     case c4=>omega
     case c5=>simp; omega
     intro v' w2 hown' hgrow _ _
     have HG:=Lib.hid (Below.grown (HB.out.alloc HB.out.size _) hgrow (by simp; omega) (fun g hg=>by have:=(hown.out.lt g hg).1; simpa using this))
     have HO':=Lib.hid hown'
     clear hown' hgrow
     go_wp2_with fail
     go_roundw
     case rel=>exact ⟨k+1,by omega,by go_num,HG.out,Lib.hid (by rw [HSN.out,HGO.out,intVals_snoc]; simpa using HO'.out)⟩
     case measure=>simp [intOf]; omega
  · obtain rfl:k=L.length:=by omega
    go_wp2_with fail
    go_ret
    exact ⟨HB.out,_,rfl,by rw [List.take_length] at hown; exact hown.out⟩
set_option maxHeartbeats 1000000 in
theorem areInL_any (g:Nat) (s:Int) (v:Value) (L:List Int) (C:Ch) (w:World) (hT:TreeAt w g C) (hl:C.sts.length≤1000) (hR:Rooted C.sts) (hv:ListAt w v L) (hL:Short L.length) :
 Calls Tryz.prog 191 #[.pointer (some ⟨g,0,none⟩),v,.int .i64 s] w fun e w'=>e=.returned (.bool (allU L.length fun i=>cIn C.sts (L.getD i 0) s))∧w=w':=by
 have HI:=Lib.hid (fun (a:Int)=>inT_any g a s C w hT hl hR)
 obtain ⟨A,cap,rfl,hcap,he⟩:=hv
 unfold Short at hL
 have HE:=Lib.hid he
 have HBAD:=Lib.hid (fun i hi h=>allU_false (n:=L.length) (f:=fun i=>cIn C.sts (L.getD i 0) s) i hi h)
 have HGOOD:=Lib.hid (fun h=>allU_true (n:=L.length) (f:=fun i=>cIn C.sts (L.getD i 0) s) h)
 generalize (allU L.length fun i=>cIn C.sts (L.getD i 0) s)=R at *
 clear he hT hR
 go_enter Tryz.func191,Tryz.ntmps191
 go_wp2_with fail
 go_loopw [11] (fun i wr=>∃ k:Nat,k≤L.length∧i=.int .i64 (k:Int)∧Hid (∀ j,j < k→cIn C.sts (L.getD j 0) s=true)∧wr=w) (fun i _=>L.length - (intOf i).toNat)
 case atStart=>exact ⟨0,Nat.zero_le _,rfl,Lib.hid (fun j hj=>absurd hj (Nat.not_lt_zero _)),rfl⟩
 case round =>
  obtain ⟨k,hk,rfl,HK,rfl⟩:=hrel
  by_cases hlt:k < L.length
  · obtain ⟨b,o,rfl,hbl,hc⟩:=HE.out k _ (List.getElem?_eq_getElem hlt)
    have c0:wr.cell? ⟨b,o+k,none⟩=some (.int .i64 L[k]):=by have:=hc; unfold IntAt at this; rwa [Nat.mul_one] at this
    have hx:L.getD k 0=L[k]:=by simp [List.getD,List.getElem?_eq_getElem hlt]
    have HX:=Lib.hid hx
    generalize L[k]=x at *
    clear hc hx
    cases hi:cIn C.sts x s with
    | false =>
     have HII:=Lib.hid hi
     clear hi
     go_wp2_with fail
     refine (HI.out _).mono ?_
     rintro e w1 ⟨rfl,rfl⟩
     rw [HII.out]
     go_wp2_with fail
     go_ret
     exact ⟨ret_bool (HBAD.out k hlt (by rw [HX.out]; exact HII.out)).symm,rfl⟩
    | true =>
     have HII:=Lib.hid hi
     clear hi
     go_wp2_with fail
     refine (HI.out _).mono ?_
     rintro e w1 ⟨rfl,rfl⟩
     rw [HII.out]
     go_wp2_with fail
     go_roundw
     case rel=>exact ⟨k+1,by omega,by go_num,Lib.hid (fun j hj=>by
      by_cases hjk:j=k
      · subst hjk; rw [HX.out]; exact HII.out
      · exact HK.out j (by omega)),trivial⟩
     case measure=>simp [intOf]; omega
  · obtain rfl:k=L.length:=by omega
    go_wp2_with fail
    go_ret
    exact ⟨ret_bool (HGOOD.out HK.out).symm,rfl⟩

theorem RowAt.old {ρ:Type} {B:Nat} {w:World} {e n g:Nat} {cells:ρ→List Value} {v:Value} {rs:List ρ} (h:RowAt B w e n cells v rs) (hg:g < B) (j:Nat) (u:Value):RowAt B (w.setCell ⟨g,j,none⟩ u) e n cells v rs:=by
 rcases h with h | ⟨g',cap,cur,h1,h2,h3,h4⟩
 · exact .inl h
 · refine .inr ⟨g',cap,cur,h1,h2,?_,h4⟩
   show _=_
   rw [Below.heap_setCell w ⟨g,j,none⟩ u g' (by show g' ≠ g; omega)]
   exact h3
theorem OwnCh.old {B g:Nat} {w:World} {vs vt:Value} {C:Ch} (h:OwnCh B w vs vt C) (hg:g < B) (j:Nat) (u:Value):OwnCh B (w.setCell ⟨g,j,none⟩ u) vs vt C:=by
 obtain ⟨rs,ts,q1,q2,q3,q4⟩:=h
 exact ⟨rs,ts,q1,q2,⟨q3.1.old hg j u,fun r hr=>⟨RowAt.old (q3.2 r hr).1 hg j u,RowAt.old (q3.2 r hr).2.1 hg j u,RowAt.old (q3.2 r hr).2.2 hg j u⟩⟩,q4.1.old hg j u,fun r hr=>⟨RowAt.old (q4.2 r hr).1 hg j u,RowAt.old (q4.2 r hr).2 hg j u⟩⟩
theorem load_tr {w:World} {g:Nat} {a b c d e f:Value} (hB:Blk w g 66 #[a,b,c,d,e,f]):(loadVar 66 ⟨g,0,none⟩).run Tryz.prog w=.ok (.agg #[a,b,c,d,e,f]) w:=run_loadVar_row (P:=Tryz.prog) w g 66 66 _ (0,0) _ hB Tryz.underlying66 rfl (by kernel_rfl)
theorem field_ch2 (a b c:Value) (w:World):Sem.run Tryz.prog (Instr.field 25 (.agg #[a,b,c]) 2) w=.ok c w:=by
 unfold Instr.field
 have h:=Tryz.underlying25
 simp [go_sem,asAgg]
abbrev trZero:Obj:=.cells #[.int .i64 0,.int .i64 0,.string ⟨#[]⟩,.slice none 0 0,.bool false,.slice none 0 0] 66
theorem Blk.set6 {w:World} {g:Nat} {t:TypeId} {x0 x1 x2 x3 x4 x5:Value} (h:Blk w g t #[x0,x1,x2,x3,x4,x5]) (a b c d e f:Value) :
 Blk ((((((w.setCell ⟨g,0,none⟩ a).setCell ⟨g,1,none⟩ b).setCell ⟨g,2,none⟩ c).setCell ⟨g,3,none⟩ d).setCell ⟨g,4,none⟩ e).setCell ⟨g,5,none⟩ f) g t #[a,b,c,d,e,f]:=(((((h.set_ 0 a).set_ 1 b).set_ 2 c).set_ 3 d).set_ 4 e).set_ 5 f
theorem OwnCh.old6 {B g:Nat} {w:World} {vs vt:Value} {C:Ch} (h:OwnCh B w vs vt C) (hg:g < B) (a b c d e f:Value) :
 OwnCh B ((((((w.setCell ⟨g,0,none⟩ a).setCell ⟨g,1,none⟩ b).setCell ⟨g,2,none⟩ c).setCell ⟨g,3,none⟩ d).setCell ⟨g,4,none⟩ e).setCell ⟨g,5,none⟩ f) vs vt C:=(((((h.old hg 0 a).old hg 1 b).old hg 2 c).old hg 3 d).old hg 4 e).old hg 5 f
theorem below6 {B g:Nat} {w0 w:World} (h:Below B w0 w) (hg:B≤g) (a b c d e f:Value) :
 Below B w0 ((((((w.setCell ⟨g,0,none⟩ a).setCell ⟨g,1,none⟩ b).setCell ⟨g,2,none⟩ c).setCell ⟨g,3,none⟩ d).setCell ⟨g,4,none⟩ e).setCell ⟨g,5,none⟩ f) :=
 (((((h.setCell (p:=⟨g,0,none⟩) hg a).setCell (p:=⟨g,1,none⟩) hg b).setCell (p:=⟨g,2,none⟩) hg c).setCell (p:=⟨g,3,none⟩) hg d).setCell (p:=⟨g,4,none⟩) hg e).setCell (p:=⟨g,5,none⟩) hg f
def trOf (R:List Tr) (i:Int):Tr:=if isTr R i=true then trAt R i else noTr
theorem ChHas.tra {w:World} {vs vt:Value} {C:Ch} (h:ChHas w vs vt C) {k:Nat} (hk:k < C.trs.length) :
 ∃ (b o cap:Nat) (wt wa:Value),vt=.slice (some ⟨b,o,none⟩) C.trs.length cap∧C.trs.length≤cap∧b < w.heap.size∧TrC w b (o+k * 6) (trAt C.trs (k:Int)) wt wa∧TrHas w wt wa (trAt C.trs (k:Int)):=by
 obtain ⟨_,⟨A,cap,hv,hc,hi⟩⟩:=h
 obtain ⟨b,o,hA,hlt,wt,wa,h0,h1⟩:=hi k _ (trAt_nat hk)
 exact ⟨b,o,cap,wt,wa,by rw [hv,hA],hc,hlt,h0,h1⟩
theorem ChHas.tra' {w:World} {vs:Value} {C:Ch} {b o n cap:Nat} (h:ChHas w vs (.slice (some ⟨b,o,none⟩) n cap) C) {k:Nat} (hk:k < C.trs.length) :
 ∃ (wt wa:Value),TrC w b (o+k * 6) (trAt C.trs (k:Int)) wt wa∧TrHas w wt wa (trAt C.trs (k:Int)):=by
 obtain ⟨b',o',cap',wt,wa,hv,_,_,h0,h1⟩:=h.tra hk
 injection hv with e1 e2 e3
 injection e1 with e1
 injection e1 with e4 e5
 subst e4; subst e5
 exact ⟨wt,wa,h0,h1⟩
set_option maxHeartbeats 4000000 in
set_option maxRecDepth 100000 in
theorem transL_any (g:Nat) (i:Int) (C:Ch) (w:World) (hT:TreeAt w g C) (hF:fewB C=true) :
 Calls Tryz.prog 189 #[.pointer (some ⟨g,0,none⟩),.int .i64 i] w fun e w'=>Below w.heap.size w w'∧∃ vt va,e=.returned (trVal (trOf C.trs i) vt va)∧TrHas w' vt va (trOf C.trs i):=by
 have HY:=Lib.hid (Blk.new w 66 #[.int .i64 0,.int .i64 0,.string ⟨#[]⟩,.slice none 0 0,.bool false,.slice none 0 0])
 have HC:=Lib.hid (chartT_any g C _ (hT.below (below_box w trZero)) hF)
 have hl60:C.trs.length≤60:=(few_parts hF).2.1
 clear hT hF
 cases hi:isTr C.trs i with
 | true =>
  obtain ⟨k,rfl,hk⟩:=isTr_nat hi
  have HT:Hid (trOf C.trs (k:Int)=trAt C.trs (k:Int)):=Lib.hid (if_pos hi)
  have hd1:decide ((k:Int) < 0)=false:=by simp
  have hd2:decide ((C.trs.length:Int)≤(k:Int))=false:=by simp; omega
  rw [HT.out]
  clear hi
  go_enter Tryz.func189,Tryz.ntmps189
  go_wp2_with fail
  refine HC.out.mono ?_
  rintro e w1 ⟨hb1,us,ut,rfl,ho1⟩
  obtain ⟨b,o,cap,wt,wa,hut,hcap,hbl,⟨c0,c1,c2,c3,c4,c5⟩,hhas⟩:=ho1.has.tra hk
  obtain ⟨uA,ucap,rA,rcap,rfl,hut2⟩:=ho1.has.slices
  subst hut
  have hfd:=fun W=>field_ch2 (.int .i64 C.vars) (.slice uA C.sts.length ucap) (.slice (some ⟨b,o,none⟩) C.trs.length cap) W
  obtain ⟨tA,tcap,aA,acap,rfl,rfl⟩:=hhas.slices
  have HY1:=Lib.hid (HY.out.below hb1 HY.out.lt)
  have HB1:=Lib.hid (below_boxed hb1)
  have HO1:=Lib.hid ho1
  obtain ⟨y0,y1,y2,y3,y4,y5⟩:=HY1.out.facts6
  have z0:=HY1.out.frozen 0
  have z1:=HY1.out.frozen 1
  have z2:=HY1.out.frozen 2
  have z3:=HY1.out.frozen 3
  have z4:=HY1.out.frozen 4
  have z5:=HY1.out.frozen 5
  have hn1:¬ b=w.heap.size:=by
   intro hbe
   obtain ⟨rs,ts,_,q2,_,q4⟩:=ho1
   rcases q4.1 with ⟨h,_⟩ | ⟨g',cap',cur,h,hge,_⟩
   · cases h
   · injection h with e1
     injection e1 with e1
     injection e1 with e1
     subst e1
     have:(w.alloc trZero).heap.size=w.heap.size+1:=by simp
     omega
  have HQ:=Lib.hid (HO1.out.old6 (g:=w.heap.size) (by simp) (.int .i64 (trAt C.trs (k:Int)).src) (.int .i64 (trAt C.trs (k:Int)).ev) (.string (trAt C.trs (k:Int)).guard) (.slice tA (trAt C.trs (k:Int)).tgts.length tcap) (.bool (trAt C.trs (k:Int)).inner) (.slice aA (trAt C.trs (k:Int)).acts.length acap))
  obtain ⟨wt',wa',hC',hH'⟩:=HQ.out.has.tra' hk
  have hwt:Hid (wt'=.slice tA (trAt C.trs (k:Int)).tgts.length tcap∧wa'=.slice aA (trAt C.trs (k:Int)).acts.length acap):=by
   refine Lib.hid ?_
   obtain ⟨_,_,_,h3,_,h5⟩:=hC'
   have n3:∀ (W:World) (j:Nat) (u:Value) (q:Nat),(W.setCell ⟨w.heap.size,j,none⟩ u).cell? ⟨b,q,none⟩=W.cell? ⟨b,q,none⟩:=fun W j u q=>by
    have hh:=Below.heap_setCell W ⟨w.heap.size,j,none⟩ u b hn1
    simp [World.cell?,hh]
   rw [n3,n3,n3,n3,n3,n3,c3] at h3
   rw [n3,n3,n3,n3,n3,n3,c5] at h5
   injection h3 with h3
   injection h5 with h5
   exact ⟨h3.symm,h5.symm⟩
  obtain ⟨rfl,rfl⟩:=hwt.out
  have HH:=Lib.hid hH'
  clear hb1 ho1 hhas hut2 HO1 hC' hH' hwt
  go_wp2_with fail
  refine bodyPost_ret (results_own rfl _ _ _ rfl (load_tr (HY1.out.set6 _ _ _ _ _ _))) rfl ?_
  exact ⟨below6 HB1.out (Nat.le_refl _) _ _ _ _ _ _,_,_,rfl,HH.out⟩
 | false =>
  have HT:Hid (trOf C.trs i=noTr):=Lib.hid (by unfold trOf; rw [if_neg (by rw [hi]; simp)])
  by_cases hneg:i < 0
  · have hd1:decide (i < 0)=true:=by simpa using hneg
    rw [HT.out]
    clear hi
    go_enter Tryz.func189,Tryz.ntmps189
    go_wp2_with fail
    refine HC.out.mono ?_
    rintro e w1 ⟨hb1,us,ut,rfl,ho1⟩
    obtain ⟨uA,ucap,rA,rcap,rfl,rfl⟩:=ho1.has.slices
    have hfd:=fun W=>field_ch2 (.int .i64 C.vars) (.slice uA C.sts.length ucap) (.slice rA C.trs.length rcap) W
    have HY1:=Lib.hid (HY.out.below hb1 HY.out.lt)
    have HB1:=Lib.hid (below_boxed hb1)
    obtain ⟨y0,y1,y2,y3,y4,y5⟩:=HY1.out.facts6
    have z0:=HY1.out.frozen 0
    have z1:=HY1.out.frozen 1
    have z2:=HY1.out.frozen 2
    have z3:=HY1.out.frozen 3
    have z4:=HY1.out.frozen 4
    have z5:=HY1.out.frozen 5
    clear hb1 ho1
    go_wp2_with fail
    refine bodyPost_ret (results_own rfl _ _ _ rfl (load_tr (HY1.out.set6 _ _ _ _ _ _))) rfl ?_
    exact ⟨below6 HB1.out (Nat.le_refl _) _ _ _ _ _ _,_,_,rfl,RowsAt.nil _,RowsAt.nil _⟩
  · have hd1:decide (i < 0)=false:=by simpa using hneg
    have hd2:decide ((C.trs.length:Int)≤i)=true:=by
     have:¬ (0≤i∧i < (C.trs.length:Int)):=fun h=>by rw [isTr_iff.2 h] at hi; cases hi
     simp; omega
    rw [HT.out]
    clear hi
    go_enter Tryz.func189,Tryz.ntmps189
    go_wp2_with fail
    refine HC.out.mono ?_
    rintro e w1 ⟨hb1,us,ut,rfl,ho1⟩
    obtain ⟨uA,ucap,rA,rcap,rfl,rfl⟩:=ho1.has.slices
    have hfd:=fun W=>field_ch2 (.int .i64 C.vars) (.slice uA C.sts.length ucap) (.slice rA C.trs.length rcap) W
    have HY1:=Lib.hid (HY.out.below hb1 HY.out.lt)
    have HB1:=Lib.hid (below_boxed hb1)
    obtain ⟨y0,y1,y2,y3,y4,y5⟩:=HY1.out.facts6
    have z0:=HY1.out.frozen 0
    have z1:=HY1.out.frozen 1
    have z2:=HY1.out.frozen 2
    have z3:=HY1.out.frozen 3
    have z4:=HY1.out.frozen 4
    have z5:=HY1.out.frozen 5
    clear hb1 ho1
    go_wp2_with fail
    refine bodyPost_ret (results_own rfl _ _ _ rfl (load_tr (HY1.out.set6 _ _ _ _ _ _))) rfl ?_
    exact ⟨below6 HB1.out (Nat.le_refl _) _ _ _ _ _ _,_,_,rfl,RowsAt.nil _,RowsAt.nil _⟩
def rchT (S:List St) (t:Tr):Int :=
 if t.tgts.length=0 then -1
 else if t.inner=true∧kindT S t.src=2∧(allU (goalsL S t.tgts).length fun i=>cIn S ((goalsL S t.tgts).getD i 0) t.src)=true then t.src
 else jnT S (goalsL S t.tgts ++ [t.src])
def rchL (C:Ch) (i:Int):Int:=rchT C.sts (trOf C.trs i)
theorem few_tgts {C:Ch} (hF:fewB C=true) (i:Int):(trOf C.trs i).tgts.length≤20:=by
 unfold trOf
 split
 · rename_i h
   obtain ⟨k,rfl,hk⟩:=isTr_nat h
   have:=(few_parts hF).2.2.2 k hk
   unfold fewTrB at this
   simp only [Bool.and_eq_true,decide_eq_true_eq] at this
   have h2:trAt C.trs (k:Int)=C.trs.getD k noTr:=rfl
   rw [h2]
   exact this.1.2
 · exact Nat.zero_le _


set_option maxHeartbeats 4000000 in
set_option maxRecDepth 100000 in
theorem reach_any (g:Nat) (i:Int) (C:Ch) (w:World) (hT:TreeAt w g C) (hF:fewB C=true) (hta:Tame C.sts) (hR:Rooted C.sts) :
 Calls Tryz.prog 166 #[.pointer (some ⟨g,0,none⟩),.int .i64 i] w fun e w'=>e=.returned (.int .i64 (rchL C i))∧Below w.heap.size w w':=by
 obtain ⟨i0,hi,hz0,hz1,hz2⟩:=info_parts Tryz.info3
 have HI:=Lib.hid hi
 have HZ0:=Lib.hid hz0
 have HZ1:=Lib.hid hz1
 have HZ2:=Lib.hid hz2
 have hl:C.sts.length≤1000:=by have:=hta.len; omega
 have HTR:=Lib.hid (transL_any g i C w hT hF)
 have htl:=few_tgts hF i
 have HKD:=Lib.hid (fun (W:World) (h:Below w.heap.size w W) (s:Int)=>kindT_any g s C W (hT.below h) hl)
 have HGO:=Lib.hid (fun (W:World) (h:Below w.heap.size w W) (v:Value) (hv:ListAt W v (trOf C.trs i).tgts)=>goals_any g v (trOf C.trs i).tgts C W (hT.below h) hta hR hv (by omega))
 have HAI:=Lib.hid (fun (W:World) (h:Below w.heap.size w W) (s:Int) (v:Value) (L:List Int) (hv:ListAt W v L) (hL:L.length≤1000)=>areInL_any g s v L C W (hT.below h) hl hR hv (by unfold Short; omega))
 have HJ:=Lib.hid (fun (W:World) (h:Below w.heap.size w W) (v:Value) {L:List Int} (hv:ListAt W v L) (hL:L.length≤1000)=>join_any g v L C W (hT.below h) hl hR hv (by unfold Short; omega))
 have HRR:Hid (rchL C i=rchT C.sts (trOf C.trs i)):=Lib.hid rfl
 have HGL0:=Lib.hid (goalsL_len C.sts (trOf C.trs i).tgts)
 generalize rchL C i=R at *
 generalize trOf C.trs i=T at *
 obtain ⟨src,ev,guard,tgts,inner,acts⟩:=T
 simp only at HTR htl HGO HGL0
 clear hi hz0 hz1 hz2 hT hF hta hR hl
 by_cases h0:tgts.length=0
 · have HR0:Hid (R=-1):=Lib.hid (by rw [HRR.out]; unfold rchT; rw [if_pos h0])
   have h00:((tgts.length:Int) == 0)=true:=by rw [h0]; rfl
   clear h0
   go_enter Tryz.func166,Tryz.ntmps166
   go_wp2_with fail
   refine HTR.out.mono ?_
   rintro e w1 ⟨hb1,vt,va,rfl,hhas⟩
   obtain ⟨tA,tcap,aA,acap,rfl,rfl⟩:=hhas.slices
   have HB1:=Lib.hid hb1
   have HHAS:=Lib.hid hhas.1
   simp only at HHAS
   have HX:=Lib.hid (Blk.new w1 66 #[.int .i64 src,.int .i64 ev,.string guard,.slice tA tgts.length tcap,.bool inner,.slice aA acts.length acap])
   have HB2:=Lib.hid (hb1.trans ((below_box w1 (.cells #[.int .i64 src,.int .i64 ev,.string guard,.slice tA tgts.length tcap,.bool inner,.slice aA acts.length acap] 66)).mono hb1.size))
   have HLI:=Lib.hid (ListAt.below HHAS.out (below_box w1 (.cells #[.int .i64 src,.int .i64 ev,.string guard,.slice tA tgts.length tcap,.bool inner,.slice aA acts.length acap] 66)))
   generalize acts.length=al at *
   clear hb1 hhas
   go_wp2_with fail
   go_ret
   exact ⟨ret_int HR0.out.symm,HB2.out⟩
 · have h00:((tgts.length:Int) == 0)=false:=beq_false_of_ne (by omega)
   have HNZ:=Lib.hid h0
   clear h0
   cases inner with
   | false =>
    have HR1:Hid (R=jnT C.sts (goalsL C.sts tgts ++ [src])):=Lib.hid (by rw [HRR.out]; unfold rchT; rw [if_neg HNZ.out,if_neg (fun h=>by cases h.1)])
    have HGL:Hid ((goalsL C.sts tgts).length≤20):=Lib.hid (by rw [HGL0.out]; exact htl)
    generalize goalsL C.sts tgts=G at *
    go_enter Tryz.func166,Tryz.ntmps166
    go_wp2_with fail
    refine HTR.out.mono ?_
    rintro e w1 ⟨hb1,vt,va,rfl,hhas⟩
    obtain ⟨tA,tcap,aA,acap,rfl,rfl⟩:=hhas.slices
    have HB1:=Lib.hid hb1
    have HHAS:=Lib.hid hhas.1
    simp only at HHAS
    have HX:=Lib.hid (Blk.new w1 66 #[.int .i64 src,.int .i64 ev,.string guard,.slice tA tgts.length tcap,.bool false,.slice aA acts.length acap])
    have HB2:=Lib.hid (hb1.trans ((below_box w1 (.cells #[.int .i64 src,.int .i64 ev,.string guard,.slice tA tgts.length tcap,.bool false,.slice aA acts.length acap] 66)).mono hb1.size))
    have HLI:=Lib.hid (ListAt.below HHAS.out (below_box w1 (.cells #[.int .i64 src,.int .i64 ev,.string guard,.slice tA tgts.length tcap,.bool false,.slice aA acts.length acap] 66)))
    generalize acts.length=al at *
    clear hb1 hhas
    go_wp2_with fail
    refine (HGO.out _ HB2.out _ HLI.out).mono ?_
    rintro e w3 ⟨hb3,v3,rfl,ho3⟩
    have HB3:=Lib.hid (HB2.out.trans (hb3.mono HB2.out.size))
    have hs2:=HB2.out.size
    have HO3:=Lib.hid (own_lower ho3 hs2)
    have HX3:=Lib.hid (HX.out.below hb3 HX.out.lt)
    have HL3:=Lib.hid (list_of_own ho3)
    have hs3:=HB3.out.size
    obtain ⟨y0,y1,y2,y3,y4,y5⟩:=HX3.out.facts6
    clear hb3 ho3 hs2
    have hgl:=HGL.out
    go_wp2_with (at_builtin; refine wpList_append_own_at _ rfl _ _ 36 rfl (w.heap.size) 3 i0 (.int .i64 0) 1 8 Tryz.underlying36 HI.out HZ0.out HZ1.out HZ2.out rfl (by decide) _ _ _ rfl (HO3.out.alloc _) ⟨w3.heap.size,0,none⟩ 1 1 [.int .i64 src] rfl rfl ?c1 ?c2 ?c3 ?c4 ?c5 ?_)
    case c1=>exact new_val _ _ _ _ (by simp)
    case c2=>exact int_one _
    case c3=>unfold maxLen; omega
    case c4=>omega
    case c5=>simp; omega
    intro v' w4 hown' hgrow _ _
    have HG:=Lib.hid (Below.grown (HB3.out.alloc HB3.out.size _) hgrow (by simp; omega) (fun g hg=>by have:=(HO3.out.lt g hg).1; simpa using this))
    have HO':=Lib.hid hown'
    clear hown' hgrow
    go_wp2_with fail
    refine (HJ.out w4 HG.out _ (list_of_own (L:=G ++ [src]) (by rw [intVals_snoc]; simpa using HO'.out)) (by simp; omega)).mono ?_
    rintro e w5 ⟨rfl,rfl⟩
    go_wp2_with fail
    go_ret
    exact ⟨ret_int HR1.out.symm,HG.out⟩
   | true =>
    by_cases hk:kindT C.sts src=2
    · have hkb:(kindT C.sts src == 2)=true:=by simpa using hk
      have HK:=Lib.hid hk
      clear hk
      cases ha:(allU (goalsL C.sts tgts).length fun i=>cIn C.sts ((goalsL C.sts tgts).getD i 0) src) with
      | true =>
       have HA:=Lib.hid ha
       have HR1:Hid (R=src):=Lib.hid (by rw [HRR.out]; unfold rchT; rw [if_neg HNZ.out,if_pos ⟨rfl,HK.out,ha⟩])
       clear ha
       have HGL:Hid ((goalsL C.sts tgts).length≤20):=Lib.hid (by rw [HGL0.out]; exact htl)
       generalize goalsL C.sts tgts=G at *
       go_enter Tryz.func166,Tryz.ntmps166
       go_wp2_with fail
       refine HTR.out.mono ?_
       rintro e w1 ⟨hb1,vt,va,rfl,hhas⟩
       obtain ⟨tA,tcap,aA,acap,rfl,rfl⟩:=hhas.slices
       have HB1:=Lib.hid hb1
       have HHAS:=Lib.hid hhas.1
       simp only at HHAS
       have HX:=Lib.hid (Blk.new w1 66 #[.int .i64 src,.int .i64 ev,.string guard,.slice tA tgts.length tcap,.bool true,.slice aA acts.length acap])
       have HB2:=Lib.hid (hb1.trans ((below_box w1 (.cells #[.int .i64 src,.int .i64 ev,.string guard,.slice tA tgts.length tcap,.bool true,.slice aA acts.length acap] 66)).mono hb1.size))
       have HLI:=Lib.hid (ListAt.below HHAS.out (below_box w1 (.cells #[.int .i64 src,.int .i64 ev,.string guard,.slice tA tgts.length tcap,.bool true,.slice aA acts.length acap] 66)))
       generalize acts.length=al at *
       clear hb1 hhas
       go_wp2_with fail
       refine (HGO.out _ HB2.out _ HLI.out).mono ?_
       rintro e w3 ⟨hb3,v3,rfl,ho3⟩
       have HB3:=Lib.hid (HB2.out.trans (hb3.mono HB2.out.size))
       have hs2:=HB2.out.size
       have HO3:=Lib.hid (own_lower ho3 hs2)
       have HX3:=Lib.hid (HX.out.below hb3 HX.out.lt)
       have HL3:=Lib.hid (list_of_own ho3)
       have hs3:=HB3.out.size
       obtain ⟨y0,y1,y2,y3,y4,y5⟩:=HX3.out.facts6
       clear hb3 ho3 hs2
       go_wp2_with fail
       refine (HKD.out w3 HB3.out src).mono ?_
       rintro e w4 ⟨rfl,rfl⟩
       go_wp2_with fail
       refine (HAI.out w3 HB3.out src v3 G HL3.out (by have:=HGL.out; omega)).mono ?_
       rintro e w4 ⟨rfl,rfl⟩
       rw [HA.out]
       go_wp2_with fail
       go_ret
       exact ⟨ret_int HR1.out.symm,HB3.out⟩
      | false =>
       have HA:=Lib.hid ha
       have HR1:Hid (R=jnT C.sts (goalsL C.sts tgts ++ [src])):=Lib.hid (by rw [HRR.out]; unfold rchT; rw [if_neg HNZ.out,if_neg (fun h=>by have:=h.2.2; rw [ha] at this; cases this)])
       clear ha
       have HGL:Hid ((goalsL C.sts tgts).length≤20):=Lib.hid (by rw [HGL0.out]; exact htl)
       generalize goalsL C.sts tgts=G at *
       go_enter Tryz.func166,Tryz.ntmps166
       go_wp2_with fail
       refine HTR.out.mono ?_
       rintro e w1 ⟨hb1,vt,va,rfl,hhas⟩
       obtain ⟨tA,tcap,aA,acap,rfl,rfl⟩:=hhas.slices
       have HB1:=Lib.hid hb1
       have HHAS:=Lib.hid hhas.1
       simp only at HHAS
       have HX:=Lib.hid (Blk.new w1 66 #[.int .i64 src,.int .i64 ev,.string guard,.slice tA tgts.length tcap,.bool true,.slice aA acts.length acap])
       have HB2:=Lib.hid (hb1.trans ((below_box w1 (.cells #[.int .i64 src,.int .i64 ev,.string guard,.slice tA tgts.length tcap,.bool true,.slice aA acts.length acap] 66)).mono hb1.size))
       have HLI:=Lib.hid (ListAt.below HHAS.out (below_box w1 (.cells #[.int .i64 src,.int .i64 ev,.string guard,.slice tA tgts.length tcap,.bool true,.slice aA acts.length acap] 66)))
       generalize acts.length=al at *
       clear hb1 hhas
       go_wp2_with fail
       refine (HGO.out _ HB2.out _ HLI.out).mono ?_
       rintro e w3 ⟨hb3,v3,rfl,ho3⟩
       have HB3:=Lib.hid (HB2.out.trans (hb3.mono HB2.out.size))
       have hs2:=HB2.out.size
       have HO3:=Lib.hid (own_lower ho3 hs2)
       have HX3:=Lib.hid (HX.out.below hb3 HX.out.lt)
       have HL3:=Lib.hid (list_of_own ho3)
       have hs3:=HB3.out.size
       obtain ⟨y0,y1,y2,y3,y4,y5⟩:=HX3.out.facts6
       clear hb3 ho3 hs2
       go_wp2_with fail
       refine (HKD.out w3 HB3.out src).mono ?_
       rintro e w4 ⟨rfl,rfl⟩
       go_wp2_with fail
       refine (HAI.out w3 HB3.out src v3 G HL3.out (by have:=HGL.out; omega)).mono ?_
       rintro e w4 ⟨rfl,rfl⟩
       rw [HA.out]
       have hgl:=HGL.out
       go_wp2_with (at_builtin; refine wpList_append_own_at _ rfl _ _ 36 rfl (w.heap.size) 3 i0 (.int .i64 0) 1 8 Tryz.underlying36 HI.out HZ0.out HZ1.out HZ2.out rfl (by decide) _ _ _ rfl (HO3.out.alloc _) ⟨w3.heap.size,0,none⟩ 1 1 [.int .i64 src] rfl rfl ?c1 ?c2 ?c3 ?c4 ?c5 ?_)
       case c1=>exact new_val _ _ _ _ (by simp)
       case c2=>exact int_one _
       case c3=>unfold maxLen; omega
       case c4=>omega
       case c5=>simp; omega
       intro v' w4 hown' hgrow _ _
       have HG:=Lib.hid (Below.grown (HB3.out.alloc HB3.out.size _) hgrow (by simp; omega) (fun g hg=>by have:=(HO3.out.lt g hg).1; simpa using this))
       have HO':=Lib.hid hown'
       clear hown' hgrow
       go_wp2_with fail
       refine (HJ.out w4 HG.out _ (list_of_own (L:=G ++ [src]) (by rw [intVals_snoc]; simpa using HO'.out)) (by simp; omega)).mono ?_
       rintro e w5 ⟨rfl,rfl⟩
       go_wp2_with fail
       go_ret
       exact ⟨ret_int HR1.out.symm,HG.out⟩
    · have hkb:(kindT C.sts src == 2)=false:=by simpa using hk
      have HK:=Lib.hid hk
      clear hk
      have HR1:Hid (R=jnT C.sts (goalsL C.sts tgts ++ [src])):=Lib.hid (by rw [HRR.out]; unfold rchT; rw [if_neg HNZ.out,if_neg (fun h=>HK.out h.2.1)])
      have HGL:Hid ((goalsL C.sts tgts).length≤20):=Lib.hid (by rw [HGL0.out]; exact htl)
      generalize goalsL C.sts tgts=G at *
      go_enter Tryz.func166,Tryz.ntmps166
      go_wp2_with fail
      refine HTR.out.mono ?_
      rintro e w1 ⟨hb1,vt,va,rfl,hhas⟩
      obtain ⟨tA,tcap,aA,acap,rfl,rfl⟩:=hhas.slices
      have HB1:=Lib.hid hb1
      have HHAS:=Lib.hid hhas.1
      simp only at HHAS
      have HX:=Lib.hid (Blk.new w1 66 #[.int .i64 src,.int .i64 ev,.string guard,.slice tA tgts.length tcap,.bool true,.slice aA acts.length acap])
      have HB2:=Lib.hid (hb1.trans ((below_box w1 (.cells #[.int .i64 src,.int .i64 ev,.string guard,.slice tA tgts.length tcap,.bool true,.slice aA acts.length acap] 66)).mono hb1.size))
      have HLI:=Lib.hid (ListAt.below HHAS.out (below_box w1 (.cells #[.int .i64 src,.int .i64 ev,.string guard,.slice tA tgts.length tcap,.bool true,.slice aA acts.length acap] 66)))
      generalize acts.length=al at *
      clear hb1 hhas
      go_wp2_with fail
      refine (HGO.out _ HB2.out _ HLI.out).mono ?_
      rintro e w3 ⟨hb3,v3,rfl,ho3⟩
      have HB3:=Lib.hid (HB2.out.trans (hb3.mono HB2.out.size))
      have hs2:=HB2.out.size
      have HO3:=Lib.hid (own_lower ho3 hs2)
      have HX3:=Lib.hid (HX.out.below hb3 HX.out.lt)
      have HL3:=Lib.hid (list_of_own ho3)
      have hs3:=HB3.out.size
      obtain ⟨y0,y1,y2,y3,y4,y5⟩:=HX3.out.facts6
      clear hb3 ho3 hs2
      go_wp2_with fail
      refine (HKD.out w3 HB3.out src).mono ?_
      rintro e w4 ⟨rfl,rfl⟩
      have hgl:=HGL.out
      go_wp2_with (at_builtin; refine wpList_append_own_at _ rfl _ _ 36 rfl (w.heap.size) 3 i0 (.int .i64 0) 1 8 Tryz.underlying36 HI.out HZ0.out HZ1.out HZ2.out rfl (by decide) _ _ _ rfl (HO3.out.alloc _) ⟨w3.heap.size,0,none⟩ 1 1 [.int .i64 src] rfl rfl ?c1 ?c2 ?c3 ?c4 ?c5 ?_)
      case c1=>exact new_val _ _ _ _ (by simp)
      case c2=>exact int_one _
      case c3=>unfold maxLen; omega
      case c4=>omega
      case c5=>simp; omega
      intro v' w4 hown' hgrow _ _
      have HG:=Lib.hid (Below.grown (HB3.out.alloc HB3.out.size _) hgrow (by simp; omega) (fun g hg=>by have:=(HO3.out.lt g hg).1; simpa using this))
      have HO':=Lib.hid hown'
      clear hown' hgrow
      go_wp2_with fail
      refine (HJ.out w4 HG.out _ (list_of_own (L:=G ++ [src]) (by rw [intVals_snoc]; simpa using HO'.out)) (by simp; omega)).mono ?_
      rintro e w5 ⟨rfl,rfl⟩
      go_wp2_with fail
      go_ret
      exact ⟨ret_int HR1.out.symm,HG.out⟩


def leftP (C:Ch) (n:Nat) (i:Int) (k:Nat):Bool:=bitN n k && cIn C.sts (k:Int) (rchL C i)
def leftN (C:Ch) (n:Nat) (i:Int):Nat:=if rchL C i=-1 then 0 else bset (leftP C n i) 24
theorem leftN_lt (C:Ch) (n:Nat) (i:Int):leftN C n i < 4294967296:=by
 unfold leftN
 split
 · omega
 · exact bset_u32 _ (by omega)
set_option maxHeartbeats 4000000 in
set_option maxRecDepth 100000 in
theorem lset_any (g n:Nat) (i:Int) (C:Ch) (w:World) (hT:TreeAt w g C) (hF:fewB C=true) (hta:Tame C.sts) (hR:Rooted C.sts) (hn:n < 4294967296) :
 Calls Tryz.prog 129 #[.pointer (some ⟨g,0,none⟩),.int .u32 (n:Int),.int .i64 i] w fun e w'=>e=.returned (.int .u32 ((leftN C n i:Nat):Int))∧Below w.heap.size w w':=by
 have hl:C.sts.length≤1000:=by have:=hta.len; omega
 have HRE:=Lib.hid (reach_any g i C w hT hF hta hR)
 have HIN:=Lib.hid (fun (W:World) (h:Below w.heap.size w W) (a b:Int)=>inT_any g a b C W (hT.below h) hl hR)
 by_cases hr:rchL C i=-1
 · have HLN:Hid (leftN C n i=0):=Lib.hid (if_pos hr)
   have hrb:(rchL C i == -1)=true:=by simpa using hr
   generalize leftN C n i=N at *
   generalize rchL C i=r at *
   clear hT hF hta hR hl hr
   go_enter Tryz.func129,Tryz.ntmps129
   go_wp2_with fail
   refine HRE.out.mono ?_
   rintro e w1 ⟨rfl,hb1⟩
   have HB1:=Lib.hid hb1
   clear hb1
   go_wp2_with fail
   go_ret
   exact ⟨by rw [HLN.out]; rfl,HB1.out⟩
 · have HLN:Hid (leftN C n i=bset (leftP C n i) 24):=Lib.hid (if_neg hr)
   have hrb:(rchL C i == -1)=false:=by simpa using hr
   have HLP:Hid (∀ k:Nat,leftP C n i k=(bitN n k && cIn C.sts (k:Int) (rchL C i))):=Lib.hid fun _=>rfl
   generalize leftN C n i=N at *
   generalize leftP C n i=P at *
   generalize rchL C i=r at *
   clear hT hF hta hR hl hr
   go_enter Tryz.func129,Tryz.ntmps129
   go_wp2_with fail
   refine HRE.out.mono ?_
   rintro e w1 ⟨rfl,hb1⟩
   have HB1:=Lib.hid hb1
   clear hb1
   go_wp2_with fail
   go_loopw [8,15] (fun v i wr=>∃ k:Nat,k≤24∧i=.int .i64 (k:Int)∧v=.int .u32 ((bset P k:Nat):Int)∧wr=w1) (fun _ i _=>24 - (intOf i).toNat)
   case atStart=>exact ⟨0,Nat.zero_le _,rfl,rfl,rfl⟩
   case round =>
    obtain ⟨k,hk,rfl,rfl,rfl⟩:=hrel
    by_cases hlt:k < 24
    · have hor:=or_step P k (by omega)
      have hno:P k=false→bset P (k+1)=bset P k:=fun h=>by rw [bset,h]; simp
      have hb0:=bset_lt P k
      have hand:=and_bit n k hn (by omega)
      have hpk:=HLP.out k
      have hpw:¬ ((2:Int) ^ k=0):=by
       have h2:((2:Int) ^ k)=((2 ^ k:Nat):Int):=by simp
       rw [h2]
       have:=Nat.pow_pos (n:=k) (show 0 < 2 by decide)
       omega
      obtain ⟨B',hB'⟩:∃ B',bset P (k+1)=B':=⟨_,rfl⟩
      rw [hB'] at hor hno
      have HB':=Lib.hid hB'
      generalize bset P k=B at *
      generalize P k=p at *
      have HOR:=Lib.hid hor
      have HNO:=Lib.hid hno
      have HPK:=Lib.hid hpk
      clear hB' hor hno hpk
      cases hbit:bitN n k with
      | false =>
       rw [hbit,if_neg (by simp)] at hand
       have hne:(bits .and .u32 (n:Int) ((2:Int) ^ k) != 0)=false:=by rw [hand]; simp
       rw [hbit] at HPK
       clear hand hbit hpw
       go_wp2_with fail
       refine (bitL_any k (by omega) _).mono ?_
       rintro e w2 ⟨rfl,rfl⟩
       go_wp2_with fail
       go_roundw
       case rel=>exact ⟨k+1,by omega,by go_num,by rw [HB'.out,HNO.out HPK.out],trivial⟩
       case measure=>simp [intOf]; omega
      | true =>
       rw [hbit,if_pos rfl] at hand
       have hne:(bits .and .u32 (n:Int) ((2:Int) ^ k) != 0)=true:=by rw [hand]; exact bne_iff_ne.2 hpw
       rw [hbit] at HPK
       clear hand hbit hpw
       cases hin:cIn C.sts (k:Int) r with
       | false =>
        have HIN2:=Lib.hid hin
        rw [hin] at HPK
        clear hin
        go_wp2_with fail
        refine (bitL_any k (by omega) _).mono ?_
        rintro e w2 ⟨rfl,rfl⟩
        go_wp2_with fail
        refine (HIN.out _ HB1.out _ _).mono ?_
        rintro e w2 ⟨rfl,rfl⟩
        rw [HIN2.out]
        go_wp2_with fail
        go_roundw
        case rel=>exact ⟨k+1,by omega,by go_num,by rw [HB'.out,HNO.out HPK.out],trivial⟩
        case measure=>simp [intOf]; omega
       | true =>
        have HIN2:=Lib.hid hin
        rw [hin] at HPK
        clear hin
        go_wp2_with fail
        refine (bitL_any k (by omega) _).mono ?_
        rintro e w2 ⟨rfl,rfl⟩
        go_wp2_with fail
        refine (HIN.out _ HB1.out _ _).mono ?_
        rintro e w2 ⟨rfl,rfl⟩
        rw [HIN2.out]
        go_wp2_with fail
        refine (bitL_any k (by omega) _).mono ?_
        rintro e w2 ⟨rfl,rfl⟩
        go_wp2_with fail
        go_roundw
        case rel=>exact ⟨k+1,by omega,by go_num,by rw [HB'.out,← HOR.out HPK.out],trivial⟩
        case measure=>simp [intOf]; omega
    · obtain rfl:k=24:=by omega
      go_wp2_with fail
      go_ret
      exact ⟨by rw [HLN.out]; rfl,HB1.out⟩
theorem and_nat (a b:Nat) (ha:a < 4294967296) (hb:b < 4294967296):bits .and .u32 (a:Int) (b:Int)=((a &&& b:Nat):Int):=(bits_nat .u32 32 (by decide) wrap_u32 _ _ ha hb).1
theorem and_ne (a b:Nat) (ha:a < 4294967296) (hb:b < 4294967296):(bits .and .u32 (a:Int) (b:Int) != 0)=decide (a &&& b ≠ 0):=by
 rw [and_nat a b ha hb,Bool.eq_iff_iff,bne_iff_ne,decide_eq_true_iff]
 omega

theorem isLeaf_any (g:Nat) (s:Int) (C:Ch) (w:World) (hT:TreeAt w g C) (hl:C.sts.length≤1000) :
 Calls Tryz.prog 158 #[.pointer (some ⟨g,0,none⟩),.int .i64 s] w fun e w'=>e=.returned (.bool (leafB (kindT C.sts s)))∧w=w':=by
 have HH:=Lib.hid (kindT_any g s C w hT hl)
 generalize kindT C.sts s=K at *
 clear hT
 by_cases h:K=1
 · subst h
   go_enter Tryz.func158,Tryz.ntmps158
   go_wp2_with fail
   refine HH.out.mono ?_
   rintro e w1 ⟨rfl,rfl⟩
   go_wp2_with fail
   go_ret
   exact ⟨rfl,rfl⟩
 · have h2:(K == 1)=false:=by simpa using h
   go_enter Tryz.func158,Tryz.ntmps158
   go_wp2_with fail
   refine HH.out.mono ?_
   rintro e w1 ⟨rfl,rfl⟩
   go_wp2_with fail
   go_ret
   exact ⟨ret_bool (by unfold leafB; simp [h]; rfl),rfl⟩
set_option maxHeartbeats 2000000 in
set_option maxRecDepth 100000 in
theorem leavesT_any (g n:Nat) (C:Ch) (w:World) (hT:TreeAt w g C) (hl:C.sts.length≤31) (hn:n < 4294967296) :
 Calls Tryz.prog 123 #[.pointer (some ⟨g,0,none⟩),.int .u32 (n:Int)] w (KPost (lvL C.sts n) w):=by
 obtain ⟨i0,hi,hz0,hz1,hz2⟩:=info_parts Tryz.info3
 have HI:=Lib.hid hi
 have HZ0:=Lib.hid hz0
 have HZ1:=Lib.hid hz1
 have HZ2:=Lib.hid hz2
 have HLF:=Lib.hid (fun (W:World) (h:Below w.heap.size w W) (s:Int)=>isLeaf_any g s C W (hT.below h) (by omega))
 have HSU:=Lib.hid (fun k=>lvU_succ C.sts n k)
 have HLE:=Lib.hid (fun k=>lvU_len C.sts n k)
 have HLP:Hid (∀ k,k < C.sts.length→leafP C.sts n k=(bitN n k && leafB (kindT C.sts (k:Int)))):=Lib.hid (fun k hk=>by unfold leafP kindT; rw [if_pos (isSt_of hk)])
 have HFN:Hid (lvL C.sts n=lvU C.sts n C.sts.length):=Lib.hid rfl
 obtain ⟨vs,vt,hX,hC⟩:=hT
 obtain ⟨A,cap,rfl,hcap⟩:=RowsAt.slice hC.1
 obtain ⟨⟨x0,x1,x2⟩,-⟩:=hX.facts3
 generalize lvU C.sts n=U at *
 generalize leafP C.sts n=P at *
 clear hi hz0 hz1 hz2 hX hC
 go_enter Tryz.func123,Tryz.ntmps123
 go_wp2_with fail
 go_loopw [5,13] (fun v i wr=>∃ k:Nat,k≤C.sts.length∧i=.int .i64 (k:Int)∧Below w.heap.size w wr∧Hid (wr.ownsRow w.heap.size 3 1 v (U k).length (intVals (U k)))) (fun _ i _=>C.sts.length - (intOf i).toNat)
 case atStart =>
  refine ⟨0,Nat.zero_le _,rfl,Below.refl _ _,Lib.hid ?_⟩
  have:U 0=[]:=List.eq_nil_of_length_eq_zero (Nat.le_zero.1 (HLE.out 0))
  rw [this]
  exact World.ownsRow_nil _ _ _ _
 case round =>
  obtain ⟨k,hk,rfl,hb,hown⟩:=hrel
  obtain ⟨wo,rfl⟩:∃ wo:World,wo=wr:=⟨_,rfl⟩
  have HB:=Lib.hid hb
  clear x0 x1 x2
  by_cases hlt:k < C.sts.length
  · have hand:=and_bit n k hn (by omega)
    have hpk:=HLP.out k hlt
    have hsu:=HSU.out k
    have hle:=HLE.out k
    have hbs:w.heap.size≤wo.heap.size:=hb.size
    have hpw:¬ ((2:Int) ^ k=0):=by
     have h2:((2:Int) ^ k)=((2 ^ k:Nat):Int):=by simp
     rw [h2]
     have:=Nat.pow_pos (n:=k) (show 0 < 2 by decide)
     omega
    generalize P k=p at *
    have HPK:=Lib.hid hpk
    have HSK:=Lib.hid hsu
    clear hpk hsu hb
    cases hbit:bitN n k with
    | false =>
     rw [hbit,if_neg (by simp)] at hand
     have hne:(bits .and .u32 (n:Int) ((2:Int) ^ k) != 0)=false:=by rw [hand]; simp
     rw [hbit] at HPK
     clear hand hbit hpw
     go_wp2_with fail
     refine (bit_any k (by omega) _).mono ?_
     rintro e w2 ⟨rfl,rfl⟩
     go_wp2_with fail
     go_roundw
     case rel=>exact ⟨k+1,by omega,by go_num,HB.out,Lib.hid (by rw [HSK.out,if_neg (by rw [HPK.out]; simp),List.append_nil]; exact hown.out)⟩
     case measure=>simp [intOf]; omega
    | true =>
     rw [hbit,if_pos rfl] at hand
     have hne:(bits .and .u32 (n:Int) ((2:Int) ^ k) != 0)=true:=by rw [hand]; exact bne_iff_ne.2 hpw
     rw [hbit] at HPK
     clear hand hbit hpw
     cases hin:leafB (kindT C.sts (k:Int)) with
     | false =>
      have HIN2:=Lib.hid hin
      rw [hin] at HPK
      clear hin
      go_wp2_with fail
      refine (bit_any k (by omega) _).mono ?_
      rintro e w2 ⟨rfl,rfl⟩
      go_wp2_with fail
      refine (HLF.out _ HB.out _).mono ?_
      rintro e w2 ⟨rfl,rfl⟩
      rw [HIN2.out]
      go_wp2_with fail
      go_roundw
      case rel=>exact ⟨k+1,by omega,by go_num,HB.out,Lib.hid (by rw [HSK.out,if_neg (by rw [HPK.out]; simp),List.append_nil]; exact hown.out)⟩
      case measure=>simp [intOf]; omega
     | true =>
      have HIN2:=Lib.hid hin
      rw [hin] at HPK
      clear hin
      go_wp2_with fail
      refine (bit_any k (by omega) _).mono ?_
      rintro e w2 ⟨rfl,rfl⟩
      go_wp2_with fail
      refine (HLF.out _ HB.out _).mono ?_
      rintro e w2 ⟨rfl,rfl⟩
      rw [HIN2.out]
      go_wp2_with (at_builtin; refine wpList_append_own_at _ rfl _ _ 36 rfl (w.heap.size) 3 i0 (.int .i64 0) 1 8 Tryz.underlying36 HI.out HZ0.out HZ1.out HZ2.out rfl (by decide) _ _ _ rfl (hown.out.alloc _) ⟨wo.heap.size,0,none⟩ 1 1 [.int .i64 (k:Int)] rfl rfl ?c1 ?c2 ?c3 ?c4 ?c5 ?_)
      case c1=>exact new_val _ _ _ _ (by simp)
      case c2=>exact int_one _
      case c3=>unfold maxLen; omega
      case c4=>omega
      case c5=>simp; omega
      intro v' w2 hown' hgrow _ _
      have HG:=Lib.hid (Below.grown (HB.out.alloc HB.out.size _) hgrow (by simp; omega) (fun g hg=>by have:=(hown.out.lt g hg).1; simpa using this))
      have HO':=Lib.hid hown'
      clear hown' hgrow
      go_wp2_with fail
      go_roundw
      case rel=>exact ⟨k+1,by omega,by go_num,HG.out,Lib.hid (by rw [HSK.out,if_pos (by rw [HPK.out]; rfl),intVals_snoc]; simpa using HO'.out)⟩
      case measure=>simp [intOf]; omega
  · obtain rfl:k=C.sts.length:=by omega
    go_wp2_with fail
    go_ret
    exact ⟨HB.out,_,rfl,by rw [HFN.out]; exact hown.out⟩
set_option maxHeartbeats 1000000 in
theorem ctrans_any (g:Nat) (C:Ch) (w:World) (hT:TreeAt w g C) (hF:fewB C=true) :
 Calls Tryz.prog 122 #[.pointer (some ⟨g,0,none⟩)] w fun e w'=>Below w.heap.size w w'∧∃ vt,e=.returned vt∧TrsAt w' vt C.trs:=by
 have HC:=Lib.hid (chartT_any g C w hT hF)
 clear hT hF
 go_enter Tryz.func122,Tryz.ntmps122
 go_wp2_with fail
 refine HC.out.mono ?_
 rintro e w1 ⟨hb1,us,ut,rfl,ho1⟩
 have HT:=Lib.hid ho1.has.2
 have HB1:=Lib.hid hb1
 have hfd:=fun W=>field_ch2 (.int .i64 C.vars) us ut W
 clear ho1 hb1
 go_wp2_with fail
 go_ret
 exact ⟨HB1.out,_,rfl,HT.out⟩
theorem isPlace_any (A:Option Addr) (R:List Tr) (cap:Nat) (i:Int) (w:World) (hl:R.length≤1000) :
 Calls Tryz.prog 126 #[.slice A R.length cap,.int .i64 i] w fun e w'=>e=.returned (.bool (isTr R i))∧w=w':=by
 by_cases h:0≤i
 · have h2:decide (0≤i)=true:=by simpa using h
   go_enter Tryz.func126,Tryz.ntmps126
   go_wp2_with fail
   go_ret
   exact ⟨ret_bool (by unfold isTr; rw [h2]; rfl),rfl⟩
 · have h2:decide (0≤i)=false:=by simpa using h
   go_enter Tryz.func126,Tryz.ntmps126
   go_wp2_with fail
   go_ret
   exact ⟨ret_bool (by unfold isTr; rw [h2]; rfl),rfl⟩
set_option maxHeartbeats 4000000 in
set_option maxRecDepth 100000 in
theorem gholds_any (s:ByteArray) (ve:Value) (env:List Int) (w:World) (hL:Laid w) (hs:s.size≤1000000) (hE:NumsAt w ve env) (hel:env.length≤1000) (hef:∀ x ∈ env,F64 x) :
 Calls Tryz.prog 187 #[.string s,ve] w fun e w'=>e=.returned (.tuple #[.bool (gdV s env).1,.bool (gdV s env).2])∧Below w.heap.size w w':=by
 have hz:=size_toList s
 have HO:=Lib.hid (of_any s ve env w hL hs hE hel hef)
 have hnn:=neq_nil_nil
 have hnc:=fun p W=>neq_code_any p W
 have hns:=fun p W=>neq_spot_any p W
 by_cases h0:s.size=0
 · have HR:Hid (gdV s env=(true,false)):=Lib.hid (if_pos h0)
   generalize gdV s env=R at *
   rw [show decide (s.size=0)=true by simpa using h0] at hz
   have hz3:s.toList=[]:=by simpa using hz
   clear hL hE hef h0 HO
   go_enter Tryz.func187,Tryz.ntmps187
   go_wp2_with fail
   go_ret2
   exact ⟨by rw [HR.out] <;> rfl,Below.refl _ _⟩
 · have HR:Hid (gdV s env=gdA (parseAns s.data.toList) env):=Lib.hid (if_neg h0)
   generalize gdV s env=R at *
   generalize parseAns s.data.toList=a at *
   rw [show decide (s.size=0)=false by simpa using h0] at hz
   have hz3:¬ s.toList=[]:=by intro h; rw [h] at hz; cases hz
   clear hL hE hef h0
   cases a with
   | toks o =>
    have HR2:Hid (R=match ans ⟨false,env,0⟩ o with | .ok k n=>if k=2 then (decide (n=1),false) else (false,true) | .bad _=>(false,true)):=Lib.hid HR.out
    have HO2:Hid (Calls Tryz.prog 205 #[.string s,ve] w (VPost (ans ⟨false,env,0⟩ o) w)):=Lib.hid HO.out
    generalize ans ⟨false,env,0⟩ o=u at *
    clear HR HO
    cases u with
    | ok k n =>
     by_cases hk:k=2
     · have HR3:Hid (R=(decide (n=1),false)):=Lib.hid (by rw [HR2.out]; simp only; rw [if_pos hk])
       have hkb:(k != 2)=false:=by simp [hk]
       clear hk
       go_enter Tryz.func187,Tryz.ntmps187
       go_wp2_with fail
       refine HO2.out.mono ?_
       rintro e w1 ⟨hb1,he⟩
       have he':e=.returned (.tuple #[.agg #[.int .i64 k,.int .i64 n],.nilIface]):=he
       subst he'
       have HB1:=Lib.hid (hb1.alloc hb1.size (.cells #[.int .i64 k,.int .i64 n] 204))
       clear he hb1
       go_wp2_with fail
       go_ret2
       exact ⟨by rw [HR3.out] <;> rfl,HB1.out⟩
     · have HR3:Hid (R=(false,true)):=Lib.hid (by rw [HR2.out]; simp only; rw [if_neg hk])
       have hkb:(k != 2)=true:=by simpa using hk
       clear hk
       go_enter Tryz.func187,Tryz.ntmps187
       go_wp2_with fail
       refine HO2.out.mono ?_
       rintro e w1 ⟨hb1,he⟩
       have he':e=.returned (.tuple #[.agg #[.int .i64 k,.int .i64 n],.nilIface]):=he
       subst he'
       have HB1:=Lib.hid (hb1.alloc hb1.size (.cells #[.int .i64 k,.int .i64 n] 204))
       clear he hb1
       go_wp2_with fail
       go_ret2
       exact ⟨by rw [HR3.out] <;> rfl,HB1.out⟩
    | bad c =>
     have HR3:Hid (R=(false,true)):=Lib.hid HR2.out
     go_enter Tryz.func187,Tryz.ntmps187
     go_wp2_with fail
     refine HO2.out.mono ?_
     rintro e w1 ⟨hb1,he⟩
     have he':e=.returned (.tuple #[.agg #[.int .i64 0,.int .i64 0],.iface 82 (.int .i64 c)]):=he
     subst he'
     have HB1:=Lib.hid (hb1.alloc hb1.size (.cells #[.int .i64 0,.int .i64 0] 204))
     clear he hb1
     go_wp2_with fail
     go_ret2
     exact ⟨by rw [HR3.out] <;> rfl,HB1.out⟩
   | form k =>
    have HR3:Hid (R=(false,true)):=Lib.hid HR.out
    go_enter Tryz.func187,Tryz.ntmps187
    go_wp2_with fail
    refine HO.out.mono ?_
    rintro e w1 ⟨hb1,g,rfl,_,_⟩
    have HB1:=Lib.hid (hb1.alloc hb1.size (.cells #[.int .i64 0,.int .i64 0] 204))
    clear hb1
    go_wp2_with fail
    go_ret2
    exact ⟨by rw [HR3.out] <;> rfl,HB1.out⟩
   | large =>
    have HR3:Hid (R=(false,true)):=Lib.hid HR.out
    go_enter Tryz.func187,Tryz.ntmps187
    go_wp2_with fail
    refine HO.out.mono ?_
    rintro e w1 ⟨hb1,he⟩
    have he':e=.returned (.tuple #[.agg #[.int .i64 0,.int .i64 0],.iface 82 (.int .i64 3)]):=he
    subst he'
    have HB1:=Lib.hid (hb1.alloc hb1.size (.cells #[.int .i64 0,.int .i64 0] 204))
    clear he hb1
    go_wp2_with fail
    go_ret2
    exact ⟨by rw [HR3.out] <;> rfl,HB1.out⟩
set_option maxHeartbeats 2000000 in
set_option maxRecDepth 100000 in
theorem isReady_any (t:Tr) (vt va ve:Value) (env:List Int) (ev:Int) (w:World) (hL:Laid w) (hs:t.guard.size≤1000000) (hE:NumsAt w ve env) (hel:env.length≤1000) (hef:∀ x ∈ env,F64 x) :
 Calls Tryz.prog 159 #[trVal t vt va,ve,.int .i64 ev] w fun e w'=>e=.returned (.tuple #[.bool (rdyV env ev t).1,.bool (rdyV env ev t).2])∧Below w.heap.size w w':=by
 have HHO:=Lib.hid (fun (W:World) (h:Below w.heap.size w W)=>gholds_any t.guard ve env W (hL.after h) hs (hE.below h) hel hef)
 have HB0:=Lib.hid (below_box w (trBox t vt va))
 by_cases he:t.ev=ev
 · have HR:Hid (rdyV env ev t=gdV t.guard env):=Lib.hid (if_pos he)
   generalize rdyV env ev t=R at *
   generalize gdV t.guard env=G at *
   have heb:(t.ev != ev)=false:=by simp [he]
   obtain ⟨src,e0,guard,tgts,inner,acts⟩:=t
   simp only at HHO HB0 heb
   clear hL hE hef he
   go_enter Tryz.func159,Tryz.ntmps159
   go_wp2_with fail
   refine (HHO.out _ HB0.out).mono ?_
   rintro e w1 ⟨rfl,hb1⟩
   have HB1:=Lib.hid (HB0.out.trans (hb1.mono HB0.out.size))
   clear hb1
   go_wp2_with fail
   go_ret2
   exact ⟨by rw [HR.out] <;> rfl,HB1.out⟩
 · have HR:Hid (rdyV env ev t=(false,false)):=Lib.hid (if_neg he)
   generalize rdyV env ev t=R at *
   have heb:(t.ev != ev)=true:=by simpa using he
   obtain ⟨src,e0,guard,tgts,inner,acts⟩:=t
   simp only at HHO HB0 heb
   clear hL hE hef he
   go_enter Tryz.func159,Tryz.ntmps159
   go_wp2_with fail
   go_ret2
   exact ⟨by rw [HR.out] <;> rfl,HB0.out⟩
theorem few_guard {C:Ch} (hF:fewB C=true) {k:Nat} (hk:k < C.trs.length):(trAt C.trs (k:Int)).guard.size≤500:=by
 have:=(few_parts hF).2.2.2 k hk
 unfold fewTrB at this
 simp only [Bool.and_eq_true,decide_eq_true_eq] at this
 have h2:trAt C.trs (k:Int)=C.trs.getD k noTr:=rfl
 rw [h2]
 exact this.2
theorem TrsAt.at_ {w:World} {v:Value} {R:List Tr} (h:TrsAt w v R) {k:Nat} (hk:k < R.length) :
 ∃ (b o cap:Nat) (wt wa:Value),v=.slice (some ⟨b,o,none⟩) R.length cap∧R.length≤cap∧b < w.heap.size∧TrC w b (o+k * 6) (trAt R (k:Int)) wt wa∧TrHas w wt wa (trAt R (k:Int)):=by
 obtain ⟨A,cap,hv,hc,hi⟩:=h
 obtain ⟨b,o,hA,hlt,wt,wa,h0,h1⟩:=hi k _ (trAt_nat hk)
 exact ⟨b,o,cap,wt,wa,by rw [hv,hA],hc,hlt,h0,h1⟩
end Go.Proofs.YtmhkpjcdkjnlnaaGreatDoor
