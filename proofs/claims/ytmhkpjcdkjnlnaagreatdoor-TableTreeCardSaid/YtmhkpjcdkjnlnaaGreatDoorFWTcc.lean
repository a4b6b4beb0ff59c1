/- A chart that is being copied: the first k states, transitions are done. -/
import Derived.Test.YtmhkpjcdkjnlnaaGreatDoorFWSx
import Derived.Test.YtmhkpjcdkjnlnaaGreatDoorFWTmem
import Derived.Test.YtmhkpjcdkjnlnaaGreatDoorFWDrw
import Derived.Deep.DrawnRows
namespace Go.Proofs.YtmhkpjcdkjnlnaaGreatDoor
open Go.ChangeShapes Go.WideShapes Go.ChangeAt Go.RowKit
set_option linter.unusedVariables false

theorem results_own {fn:Func} {r:Tmp} {ty:TypeId} {cs:Array Value} (hr:fn.results=#[.cell r ty]) (tmps:Array Value) (w:World) (g:Nat) (hp:tmps.getD r undef=.pointer (some ⟨g,0,none⟩)) (hl:(loadVar ty ⟨g,0,none⟩).run Tryz.prog w=.ok (.agg cs) w) :
 (results fn tmps).run Tryz.prog w=.ok (.agg cs) w:=by
 simp at hp
 simp [results,hr,hp,asAddr,hl]
theorem load_ch {w:World} {g:Nat} {a b c:Value} (hB:Blk w g 25 #[a,b,c]):(loadVar 25 ⟨g,0,none⟩).run Tryz.prog w=.ok (.agg #[a,b,c]) w:=run_loadVar_row (P:=Tryz.prog) w g 25 25 _ (0,0) _ hB Tryz.underlying25 rfl (by kernel_rfl)
def CcPost (C:Ch) (w:World) (e:Ending) (w':World):Prop:=Below w.heap.size w w'∧∃ vs vt,e=.returned (.agg #[.int .i64 C.vars,vs,vt])∧OwnCh w.heap.size w' vs vt C
theorem RowIs.slice {w:World} {n:Nat} {v:Value} {len:Nat} {news:List Value} (h:RowIs w n v len news):∃ A cap,v=.slice A len cap:=by
 obtain ⟨_,⟨c,rfl,rfl⟩ | ⟨ad,cap,rfl,_⟩⟩:=h
 · exact ⟨none,c,rfl⟩
 · exact ⟨some ad,cap,rfl⟩
theorem RowIs.below {w w':World} {n:Nat} {v:Value} {len:Nat} {news:List Value} (h:RowIs w n v len news) (hb:Below w.heap.size w w'):RowIs w' n v len news:=by
 obtain ⟨h0,⟨c,h1,h2⟩ | ⟨ad,cap,h1,h2,h3⟩⟩:=h
 · exact ⟨h0,.inl ⟨c,h1,h2⟩⟩
 · exact ⟨h0,.inr ⟨ad,cap,h1,fun j u hu=>(hb.cell (Lib.lt_of_cell (h2 j u hu))).trans (h2 j u hu),h3⟩⟩
theorem own_form {w:World} {B e n len:Nat} {v:Value} {xs:List Value} (h:w.ownsRow B e n v len xs):∃ A cap,v=.slice A len cap:=by
 rcases h.2 with ⟨h1,h2⟩ | ⟨g,cap,cur,h1,_⟩
 · exact ⟨none,0,by rw [h1,h2]⟩
 · exact ⟨_,_,h1⟩
theorem blk_ne {w:World} {g g':Nat} {t t':TypeId} {cs cs':Array Value} (h:Blk w g t cs) (h':Blk w g' t' cs') (hne:t ≠ t'):g ≠ g':=by
 intro he
 subst he
 unfold Blk at h h'
 rw [h] at h'
 injection h' with h'
 injection h' with _ h5
 exact hne h5
theorem Blk.set_ne {w:World} {g g':Nat} {t:TypeId} {cs:Array Value} (h:Blk w g t cs) (hne:g ≠ g') (j:Nat) (u:Value):Blk (w.setCell ⟨g',j,none⟩ u) g t cs:=(Below.heap_setCell w ⟨g',j,none⟩ u g hne).trans h
def StsTo (w0 w:World) (v:Value) (S:List St) (k:Nat):Prop:=∃ rs:List StRow,rs.map (fun r=>r.1)=S∧RowAt w0.heap.size w 63 5 stateCells v rs∧∀ i r,rs[i]?=some r→(i < k→Own3 w0.heap.size w r)∧(k≤i→StHas w0 r.2.1 r.2.2.1 r.2.2.2 r.1)
def TrsTo (w0 w:World) (v:Value) (S:List Tr) (k:Nat):Prop:=∃ rs:List TrRow,rs.map (fun r=>r.1)=S∧RowAt w0.heap.size w 66 6 transCells v rs∧∀ i r,rs[i]?=some r→(i < k→Own2 w0.heap.size w r)∧(k≤i→TrHas w0 r.2.1 r.2.2 r.1)
theorem StsTo.below {w0 w w':World} {v:Value} {S:List St} {k:Nat} (h:StsTo w0 w v S k) (hb:Below w.heap.size w w'):StsTo w0 w' v S k:=by
 obtain ⟨rs,h1,h2,h3⟩:=h
 exact ⟨rs,h1,h2.below hb,fun i r hr=>⟨fun hi=>((h3 i r hr).1 hi).below hb,(h3 i r hr).2⟩⟩
theorem TrsTo.below {w0 w w':World} {v:Value} {S:List Tr} {k:Nat} (h:TrsTo w0 w v S k) (hb:Below w.heap.size w w'):TrsTo w0 w' v S k:=by
 obtain ⟨rs,h1,h2,h3⟩:=h
 exact ⟨rs,h1,h2.below hb,fun i r hr=>⟨fun hi=>((h3 i r hr).1 hi).below hb,(h3 i r hr).2⟩⟩
theorem StsTo.apart {w0 w:World} {v:Value} {S:List St} {k g t:Nat} {cs:Array Value} (h:StsTo w0 w v S k) (hg:Blk w g t cs) (h1:3 ≠ t) (h2:104 ≠ t) (h4:63 ≠ t) (j:Nat) (u:Value):StsTo w0 (w.setCell ⟨g,j,none⟩ u) v S k:=by
 obtain ⟨rs,q1,q2,q3⟩:=h
 exact ⟨rs,q1,q2.apart hg h4 j u,fun i r hr=>⟨fun hi=>((q3 i r hr).1 hi).apart hg h1 h2 j u,(q3 i r hr).2⟩⟩
theorem TrsTo.apart {w0 w:World} {v:Value} {S:List Tr} {k g t:Nat} {cs:Array Value} (h:TrsTo w0 w v S k) (hg:Blk w g t cs) (h1:3 ≠ t) (h2:104 ≠ t) (h4:66 ≠ t) (j:Nat) (u:Value):TrsTo w0 (w.setCell ⟨g,j,none⟩ u) v S k:=by
 obtain ⟨rs,q1,q2,q3⟩:=h
 exact ⟨rs,q1,q2.apart hg h4 j u,fun i r hr=>⟨fun hi=>((q3 i r hr).1 hi).apart hg h1 h2 j u,(q3 i r hr).2⟩⟩
theorem StsTo.slice {w0 w:World} {v:Value} {S:List St} {k:Nat} (h:StsTo w0 w v S k):∃ A cap,v=.slice A S.length cap:=by
 obtain ⟨rs,h1,h2,_⟩:=h
 have hl:rs.length=S.length:=by rw [← h1,List.length_map]
 rcases h2 with ⟨rfl,rfl⟩ | ⟨g,cap,cur,rfl,_⟩
 · exact ⟨none,0,by rw [← hl]; rfl⟩
 · exact ⟨_,cap,by rw [hl]⟩
theorem TrsTo.slice {w0 w:World} {v:Value} {S:List Tr} {k:Nat} (h:TrsTo w0 w v S k):∃ A cap,v=.slice A S.length cap:=by
 obtain ⟨rs,h1,h2,_⟩:=h
 have hl:rs.length=S.length:=by rw [← h1,List.length_map]
 rcases h2 with ⟨rfl,rfl⟩ | ⟨g,cap,cur,rfl,_⟩
 · exact ⟨none,0,by rw [← hl]; rfl⟩
 · exact ⟨_,cap,by rw [hl]⟩
theorem StsTo.start {w0 w:World} {B:Nat} {v v':Value} {rs:List StRow} (h0:RowsAt 5 StRowAt w0 v rs) (h:w.ownsRow B 63 5 v' rs.length (rs.flatMap stateCells)) (hB:w0.heap.size≤B):StsTo w0 w v' (rs.map fun r=>r.1) 0:=by
 refine ⟨rs,rfl,(RowAt.of_own stateCells_len h).lower hB,fun i r hr=>⟨fun hi=>by omega,fun _=>?_⟩⟩
 obtain ⟨b,o,hp⟩:=h0.mem r (List.mem_of_getElem? hr)
 exact hp.2
theorem TrsTo.start {w0 w:World} {B:Nat} {v v':Value} {rs:List TrRow} (h0:RowsAt 6 TrRowAt w0 v rs) (h:w.ownsRow B 66 6 v' rs.length (rs.flatMap transCells)) (hB:w0.heap.size≤B):TrsTo w0 w v' (rs.map fun r=>r.1) 0:=by
 refine ⟨rs,rfl,(RowAt.of_own transCells_len h).lower hB,fun i r hr=>⟨fun hi=>by omega,fun _=>?_⟩⟩
 obtain ⟨b,o,hp⟩:=h0.mem r (List.mem_of_getElem? hr)
 exact hp.2
theorem StsTo.own {w0 w:World} {v:Value} {S:List St} (h:StsTo w0 w v S S.length):∃ rs:List StRow,rs.map (fun r=>r.1)=S∧OwnSts w0.heap.size w v rs:=by
 obtain ⟨rs,h1,h2,h3⟩:=h
 refine ⟨rs,h1,h2,fun r hr=>?_⟩
 obtain ⟨i,hi⟩:=List.getElem?_of_mem hr
 exact (h3 i r hi).1 (by have:=(List.getElem?_eq_some_iff.1 hi).1; rw [← h1,List.length_map]; exact this)
theorem TrsTo.own {w0 w:World} {v:Value} {S:List Tr} (h:TrsTo w0 w v S S.length):∃ rs:List TrRow,rs.map (fun r=>r.1)=S∧OwnTrs w0.heap.size w v rs:=by
 obtain ⟨rs,h1,h2,h3⟩:=h
 refine ⟨rs,h1,h2,fun r hr=>?_⟩
 obtain ⟨i,hi⟩:=List.getElem?_of_mem hr
 exact (h3 i r hi).1 (by have:=(List.getElem?_eq_some_iff.1 hi).1; rw [← h1,List.length_map]; exact this)
theorem StsTo.at_ {w0 w:World} {v:Value} {S:List St} {k:Nat} (h:StsTo w0 w v S k) (hk:k < S.length):∃ g cap cur vi ve vx,v=.slice (some ⟨g,0,none⟩) S.length cap∧S.length≤cap∧Blk w g 63 cur∧w0.heap.size≤g∧StHas w0 vi ve vx (S.getD k noSt) ∧
 (w.cell? ⟨g,k * 5+2,none⟩=some vi∧w.cell? ⟨g,k * 5+3,none⟩=some ve∧w.cell? ⟨g,k * 5+4,none⟩=some vx) ∧
 (∀ (w1:World) (a b c:Value),Below w.heap.size w w1→OwnInts w0.heap.size w1 a (S.getD k noSt).ini→OwnActs w0.heap.size w1 b (S.getD k noSt).ent→OwnActs w0.heap.size w1 c (S.getD k noSt).exi→StsTo w0 (((w1.setCell ⟨g,k * 5+2,none⟩ a).setCell ⟨g,k * 5+3,none⟩ b).setCell ⟨g,k * 5+4,none⟩ c) v S (k+1)):=by
 obtain ⟨rs,h1,h2,h3⟩:=h
 have hl:rs.length=S.length:=by rw [← h1,List.length_map]
 have hr:=List.getElem?_eq_getElem (l:=rs) (i:=k) (by omega)
 generalize rs[k]=r at hr
 have hS:S.getD k noSt=r.1:=by rw [← h1]; simp [List.getD,hr]
 obtain ⟨g,cap,cur,rfl,hc,hB,hg,hce⟩:=h2.at_ hr
 obtain ⟨s,vi,ve,vx⟩:=r
 simp only at hS
 refine ⟨g,cap,cur,vi,ve,vx,by rw [hl],by omega,hg,hB,by rw [hS]; exact (h3 k _ hr).2 (Nat.le_refl _),⟨(hce 2 _ rfl).1,(hce 3 _ rfl).1,(hce 4 _ rfl).1⟩,fun w1 a b c hb ha hb' hc'=>?_⟩
 rw [hS] at ha hb' hc'
 have hlt:k < rs.length:=by omega
 have e1:rs.set k (s,a,b,c)=((rs.set k (s,a,ve,vx)).set k (s,a,b,vx)).set k (s,a,b,c):=by rw [List.set_set,List.set_set]
 have hg1:=hg.below hb hg.lt
 have r1:=(h2.below hb).put (r':=(s,a,ve,vx)) (j:=2) (u:=a) stateCells_len hr (by decide) rfl
 have r2:=r1.put (r':=(s,a,b,vx)) (j:=3) (u:=b) stateCells_len (List.getElem?_set_self hlt) (by decide) rfl
 have r3:=r2.put (r':=(s,a,b,c)) (j:=4) (u:=c) stateCells_len (List.getElem?_set_self (by rw [List.length_set]; exact hlt)) (by decide) rfl
 rw [← e1] at r3
 refine ⟨rs.set k (s,a,b,c),?_,r3,fun i r hi=>?_⟩
 · rw [List.map_set,← h1]
   have:(rs.map fun r=>r.1)[k]?=some s:=by rw [List.getElem?_map,hr]; rfl
   exact List.ext_getElem? fun j=>by
    by_cases hj:j=k
    · subst hj
      rw [this,List.getElem?_set_self (by rw [List.length_map]; exact hlt)]
    · rw [List.getElem?_set_ne (Ne.symm hj)]
 · by_cases hik:i=k
   · subst hik
     rw [List.getElem?_set_self hlt] at hi
     injection hi with hi
     subst hi
     refine ⟨fun _=>?_,fun h=>by omega⟩
     have q:Own3 w0.heap.size w1 (s,a,b,c):=⟨ha,hb',hc'⟩
     exact ((q.apart hg1 (by decide) (by decide) _ _).apart (hg1.set_ _ _) (by decide) (by decide) _ _).apart ((hg1.set_ _ _).set_ _ _) (by decide) (by decide) _ _
   · rw [List.getElem?_set_ne (Ne.symm hik)] at hi
     refine ⟨fun hlt'=>?_,fun hge=>(h3 i r hi).2 (by omega)⟩
     have q:=((h3 i r hi).1 (by omega)).below hb
     exact ((q.apart hg1 (by decide) (by decide) _ _).apart (hg1.set_ _ _) (by decide) (by decide) _ _).apart ((hg1.set_ _ _).set_ _ _) (by decide) (by decide) _ _
theorem TrsTo.at_ {w0 w:World} {v:Value} {S:List Tr} {k:Nat} (h:TrsTo w0 w v S k) (hk:k < S.length):∃ g cap cur vt va,v=.slice (some ⟨g,0,none⟩) S.length cap∧S.length≤cap∧Blk w g 66 cur∧w0.heap.size≤g∧TrHas w0 vt va (S.getD k noTr) ∧
 (w.cell? ⟨g,k * 6+3,none⟩=some vt∧w.cell? ⟨g,k * 6+5,none⟩=some va) ∧
 (∀ (w1:World) (a b:Value),Below w.heap.size w w1→OwnInts w0.heap.size w1 a (S.getD k noTr).tgts→OwnActs w0.heap.size w1 b (S.getD k noTr).acts→TrsTo w0 ((w1.setCell ⟨g,k * 6+3,none⟩ a).setCell ⟨g,k * 6+5,none⟩ b) v S (k+1)):=by
 obtain ⟨rs,h1,h2,h3⟩:=h
 have hl:rs.length=S.length:=by rw [← h1,List.length_map]
 have hr:=List.getElem?_eq_getElem (l:=rs) (i:=k) (by omega)
 generalize rs[k]=r at hr
 have hS:S.getD k noTr=r.1:=by rw [← h1]; simp [List.getD,hr]
 obtain ⟨g,cap,cur,rfl,hc,hB,hg,hce⟩:=h2.at_ hr
 obtain ⟨s,vt,va⟩:=r
 simp only at hS
 refine ⟨g,cap,cur,vt,va,by rw [hl],by omega,hg,hB,by rw [hS]; exact (h3 k _ hr).2 (Nat.le_refl _),⟨(hce 3 _ rfl).1,(hce 5 _ rfl).1⟩,fun w1 a b hb ha hb'=>?_⟩
 rw [hS] at ha hb'
 have hlt:k < rs.length:=by omega
 have e1:rs.set k (s,a,b)=(rs.set k (s,a,va)).set k (s,a,b):=by rw [List.set_set]
 have hg1:=hg.below hb hg.lt
 have r1:=(h2.below hb).put (r':=(s,a,va)) (j:=3) (u:=a) transCells_len hr (by decide) rfl
 have r2:=r1.put (r':=(s,a,b)) (j:=5) (u:=b) transCells_len (List.getElem?_set_self hlt) (by decide) rfl
 rw [← e1] at r2
 refine ⟨rs.set k (s,a,b),?_,r2,fun i r hi=>?_⟩
 · rw [List.map_set,← h1]
   have:(rs.map fun r=>r.1)[k]?=some s:=by rw [List.getElem?_map,hr]; rfl
   exact List.ext_getElem? fun j=>by
    by_cases hj:j=k
    · subst hj
      rw [this,List.getElem?_set_self (by rw [List.length_map]; exact hlt)]
    · rw [List.getElem?_set_ne (Ne.symm hj)]
 · by_cases hik:i=k
   · subst hik
     rw [List.getElem?_set_self hlt] at hi
     injection hi with hi
     subst hi
     refine ⟨fun _=>?_,fun h=>by omega⟩
     have q:Own2 w0.heap.size w1 (s,a,b):=⟨ha,hb'⟩
     exact (q.apart hg1 (by decide) (by decide) _ _).apart (hg1.set_ _ _) (by decide) (by decide) _ _
   · rw [List.getElem?_set_ne (Ne.symm hik)] at hi
     refine ⟨fun hlt'=>?_,fun hge=>(h3 i r hi).2 (by omega)⟩
     have q:=((h3 i r hi).1 (by omega)).below hb
     exact (q.apart hg1 (by decide) (by decide) _ _).apart (hg1.set_ _ _) (by decide) (by decide) _ _
attribute [local go_sem ↓] Go.wp_at_zero Go.wp_at_succ

set_option maxHeartbeats 4000000 in
set_option maxRecDepth 100000 in
theorem copyCh_any (vs vt:Value) (C:Ch) (w:World) (hC:ChHas w vs vt C) (hl1:C.sts.length≤1000) (hl2:C.trs.length≤1000) (hls:∀ k,k < C.sts.length→(C.sts.getD k noSt).ini.length≤1000∧(C.sts.getD k noSt).ent.length≤1000∧(C.sts.getD k noSt).exi.length≤1000) (hlt:∀ k,k < C.trs.length→(C.trs.getD k noTr).tgts.length≤1000∧(C.trs.getD k noTr).acts.length≤1000) :
 Calls Tryz.prog 30 #[.agg #[.int .i64 C.vars,vs,vt]] w (CcPost C w):=by
 obtain ⟨rs,hrs,hsts⟩:=rawSts_of hC.1
 obtain ⟨ts,hts,htrs⟩:=rawTrs_of hC.2
 have HRL:Hid (rs.length=C.sts.length):=Lib.hid (by rw [← hrs,List.length_map])
 have HTL:Hid (ts.length=C.trs.length):=Lib.hid (by rw [← hts,List.length_map])
 have HR1:Hid (RowIs w 5 vs C.sts.length (rs.flatMap stateCells)):=Lib.hid (by rw [← HRL.out]; exact rowIs_sts hsts)
 have HR2:Hid (RowIs w 6 vt C.trs.length (ts.flatMap transCells)):=Lib.hid (by rw [← HTL.out]; exact rowIs_trs htrs)
 obtain ⟨sA,scap,rfl⟩:=HR1.out.slice
 obtain ⟨tA,tcap,rfl⟩:=HR2.out.slice
 have HS0:=Lib.hid hsts
 have HT0:=Lib.hid htrs
 have HLS:=Lib.hid hls
 have HLT:=Lib.hid hlt
 have HRS:=Lib.hid hrs
 have HTS:=Lib.hid hts
 obtain ⟨W2,hW2⟩:∃ W2,W2=(w.alloc (chBox C.vars (.slice sA C.sts.length scap) (.slice tA C.trs.length tcap))).alloc (chBox 0 (.slice none 0 0) (.slice none 0 0)):=⟨_,rfl⟩
 have hz:W2.heap.size=w.heap.size+2:=by rw [hW2]; simp
 have HB0:Hid (Below w.heap.size w W2):=Lib.hid (by rw [hW2]; exact ((Below.refl _ _).alloc (Nat.le_refl _) _).alloc (by simp) _)
 have HX:Hid (Blk W2 w.heap.size 25 #[.int .i64 C.vars,.slice sA C.sts.length scap,.slice tA C.trs.length tcap]):=Lib.hid (by rw [hW2]; exact (Blk.new w 25 _).alloc _)
 have HY:Hid (Blk W2 (w.heap.size+1) 25 #[.int .i64 0,.slice none 0 0,.slice none 0 0]):=Lib.hid (by rw [hW2]; exact Blk.new_at (w.alloc _) 25 _ (w.heap.size+1) (by simp))
 clear hC hsts htrs hls hlt hrs hts
 go_enter Tryz.func30,Tryz.ntmps30
 go_wp2_with fail
 rw [← hW2]
 clear hW2
 refine anyD_start (fun W=>W.cell? ⟨w.heap.size,1,none⟩=some (.slice sA C.sts.length scap)∧W.cell? ⟨w.heap.size,2,none⟩=some (.slice tA C.trs.length tcap)∧Below W2.heap.size W2 W) (fun i=>[7,9].contains i) (by kernel_rfl) ?_
 have HX1:Hid (W2.drew.cell? ⟨w.heap.size,1,none⟩=some (.slice sA C.sts.length scap)∧W2.drew.cell? ⟨w.heap.size,2,none⟩=some (.slice tA C.trs.length tcap)∧Below W2.heap.size W2 W2.drew):=Lib.hid ⟨HX.out.cell 1,HX.out.cell 2,(Below.refl _ _).drew⟩
 have HKEEP:Hid (∀ A B:World,Below W2.heap.size W2 A→Below A.heap.size A B→B.cell? ⟨w.heap.size,1,none⟩=some (.slice sA C.sts.length scap)∧B.cell? ⟨w.heap.size,2,none⟩=some (.slice tA C.trs.length tcap)∧Below W2.heap.size W2 B):=Lib.hid (fun A B h1 h2=>⟨(HX.out.below (h1.trans (h2.mono h1.size)) HX.out.lt).cell 1,(HX.out.below (h1.trans (h2.mono h1.size)) HX.out.lt).cell 2,h1.trans (h2.mono h1.size)⟩)
 refine anyD_t 0 (.pointer (some ⟨w.heap.size,1,none⟩)) ?_
 try simp only [Act.put,sx]
 refine anyD_l 1 (.slice sA C.sts.length scap) (HX1.out) ?_
 try simp only [Act.put,sx]
 refine anyD_t 3 (.pointer (some ⟨w.heap.size,2,none⟩)) ?_
 try simp only [Act.put,sx]
 refine anyD_l 4 (.slice tA C.trs.length tcap) (HX1.out) ?_
 try simp only [Act.put,sx]
 refine anyD_one (i:=2) rfl rfl (by kernel_rfl) (fun K HK=>?_)
 go_simp
 refine (copySt_any _ _ _ _ (HR1.out.below (HB0.out.trans (HX1.out.2.2.mono (by have:=HB0.out.size; omega)))) (by omega)).mono ?_
 rintro e w1 ⟨hb1,v1,rfl,ho1⟩
 obtain ⟨a1,k1,rfl⟩:=own_form ho1
 have HB1:=Lib.hid hb1
 have HO1:=Lib.hid ho1
 clear hb1 ho1
 go_simp
 refine HK.out _ _ (fun _ hS=>HKEEP.out _ _ hS.2.2 HB1.out) ?_
 clear HK K
 try simp only [Act.put,sx]
 refine anyD_t 6 (.pointer (some ⟨w.heap.size,1,none⟩)) ?_
 try simp only [Act.put,sx]
 refine anyD_one (i:=5) rfl rfl (by kernel_rfl) (fun K HK=>?_)
 go_simp
 refine (copyTr_any _ _ _ _ (HR2.out.below (HB0.out.trans ((HX1.out.2.2.trans (HB1.out.mono HX1.out.2.2.size)).mono (by have:=HB0.out.size; omega)))) (by omega)).mono ?_
 rintro e w2 ⟨hb2,v2,rfl,ho2⟩
 obtain ⟨a2,k2,rfl⟩:=own_form ho2
 have HB2:=Lib.hid hb2
 have HO2:=Lib.hid ho2
 clear hb2 ho2
 go_simp
 refine HK.out _ _ (fun _ hS=>HKEEP.out _ _ hS.2.2 HB2.out) ?_
 clear HK K
 try simp only [Act.put,sx]
 have HBW:Hid (Below W2.heap.size W2 w2):=Lib.hid ((HX1.out.2.2.trans (HB1.out.mono HX1.out.2.2.size)).trans (HB2.out.mono (HX1.out.2.2.trans (HB1.out.mono HX1.out.2.2.size)).size))
 have HX2:=Lib.hid (HX.out.below HBW.out HX.out.lt)
 have HY2:=Lib.hid (HY.out.below HBW.out HY.out.lt)
 obtain ⟨⟨x0,x1,x2⟩,z0,z1,z2⟩:=HX2.out.facts3
 refine anyD_one (i:=7) rfl rfl (by kernel_rfl) (fun K HK=>?_)
 go_simp
 refine HK.out _ _ (fun h=>absurd h (by decide)) ?_
 clear HK K
 try simp only [Act.put,sx]
 refine anyD_t 8 (.pointer (some ⟨w.heap.size,2,none⟩)) ?_
 try simp only [Act.put,sx]
 refine anyD_one (i:=9) rfl rfl (by kernel_rfl) (fun K HK=>?_)
 go_simp
 refine HK.out _ _ (fun h=>absurd h (by decide)) ?_
 clear HK K
 try simp only [Act.put,sx]
 refine anyD_done (by kernel_rfl) ?_
 go_wp2_with fail
 have HW3:Hid (Blk ((w2.setCell ⟨w.heap.size,1,none⟩ (.slice a1 C.sts.length k1)).setCell ⟨w.heap.size,2,none⟩ (.slice a2 C.trs.length k2)) w.heap.size 25 #[.int .i64 C.vars,.slice a1 C.sts.length k1,.slice a2 C.trs.length k2]):=Lib.hid ((HX2.out.set_ 1 _).set_ 2 _)
 have HY3:Hid (Blk ((w2.setCell ⟨w.heap.size,1,none⟩ (.slice a1 C.sts.length k1)).setCell ⟨w.heap.size,2,none⟩ (.slice a2 C.trs.length k2)) (w.heap.size+1) 25 #[.int .i64 0,.slice none 0 0,.slice none 0 0]):=Lib.hid ((HY2.out.set_ne (by omega) _ _).set_ne (by omega) _ _)
 have HB3:Hid (Below w.heap.size w ((w2.setCell ⟨w.heap.size,1,none⟩ (.slice a1 C.sts.length k1)).setCell ⟨w.heap.size,2,none⟩ (.slice a2 C.trs.length k2))):=Lib.hid (((HB0.out.trans (HBW.out.mono (by omega))).setCell (Nat.le_refl _) _).setCell (Nat.le_refl _) _)
 have HS3:Hid (StsTo w ((w2.setCell ⟨w.heap.size,1,none⟩ (.slice a1 C.sts.length k1)).setCell ⟨w.heap.size,2,none⟩ (.slice a2 C.trs.length k2)) (.slice a1 C.sts.length k1) C.sts 0):=Lib.hid (by
  have q:=StsTo.start HS0.out (w:=w1) (B:=W2.drew.heap.size) (v':=.slice a1 C.sts.length k1) (by rw [HRL.out]; exact HO1.out) HB0.out.size
  rw [HRS.out] at q
  exact ((q.below HB2.out).apart HX2.out (by decide) (by decide) (by decide) 1 _).apart (HX2.out.set_ 1 _) (by decide) (by decide) (by decide) 2 _)
 have HT3:Hid (TrsTo w ((w2.setCell ⟨w.heap.size,1,none⟩ (.slice a1 C.sts.length k1)).setCell ⟨w.heap.size,2,none⟩ (.slice a2 C.trs.length k2)) (.slice a2 C.trs.length k2) C.trs 0):=Lib.hid (by
  have q:=TrsTo.start HT0.out (w:=w2) (B:=w1.heap.size) (v':=.slice a2 C.trs.length k2) (by rw [HTL.out]; exact HO2.out) (by have:=HB1.out.size; have:=HB0.out.size; simp at *; omega)
  rw [HTS.out] at q
  exact (q.apart HX2.out (by decide) (by decide) (by decide) 1 _).apart (HX2.out.set_ 1 _) (by decide) (by decide) (by decide) 2 _)
 clear x0 x1 x2 z0 z1 z2
 clear HX1 HKEEP HB1 HO1 HB2 HO2 HBW HX2 HY2 HX HY HS0 HT0 HR1 HR2 HRS HTS HRL HTL
 go_loopw [18] (fun i wr=>∃ k:Nat,k≤C.sts.length∧i=.int .i64 (k:Int)∧Below w.heap.size w wr∧Blk wr w.heap.size 25 #[.int .i64 C.vars,.slice a1 C.sts.length k1,.slice a2 C.trs.length k2]∧Blk wr (w.heap.size+1) 25 #[.int .i64 0,.slice none 0 0,.slice none 0 0]∧Hid (StsTo w wr (.slice a1 C.sts.length k1) C.sts k)∧Hid (TrsTo w wr (.slice a2 C.trs.length k2) C.trs 0)) (fun i _=>C.sts.length - (intOf i).toNat)
 case atStart=>exact ⟨0,Nat.zero_le _,rfl,HB3.out,HW3.out,HY3.out,HS3,HT3⟩
 case round =>
  obtain ⟨k,hk,rfl,hb,hX,hY,hS,hT⟩:=hrel
  obtain ⟨wo,rfl⟩:∃ wo:World,wo=wr:=⟨_,rfl⟩
  clear HW3 HY3 HB3 HS3 HT3
  by_cases hlt:k < C.sts.length
  · obtain ⟨g,cap,cur,vi,ve,vx,hv,hcap,hg,hgB,hhas,⟨c2,c3,c4⟩,hput⟩:=hS.out.at_ hlt
    injection hv with e1 e2 e3
    subst e1; subst e3
    obtain ⟨iA,icap,eA,ecap,xA,xcap,rfl,rfl,rfl⟩:=hhas.slices
    obtain ⟨n1,n2,n3⟩:=HLS.out k hlt
    have HHI:Hid (ListAt w (.slice iA (C.sts.getD k noSt).ini.length icap) (C.sts.getD k noSt).ini):=Lib.hid hhas.1
    have HHE:Hid (ActsAt w (.slice eA (C.sts.getD k noSt).ent.length ecap) (C.sts.getD k noSt).ent):=Lib.hid hhas.2.1
    have HHX:Hid (ActsAt w (.slice xA (C.sts.getD k noSt).exi.length xcap) (C.sts.getD k noSt).exi):=Lib.hid hhas.2.2
    have HPUT:=Lib.hid hput
    have HGB:=Lib.hid hgB
    have HG:=Lib.hid hg
    have HB:=Lib.hid hb
    have HX:=Lib.hid hX
    have HY:=Lib.hid hY
    obtain ⟨⟨x0,x1,x2⟩,-⟩:=hX.facts3
    generalize (C.sts.getD k noSt).ini=LI at *
    generalize (C.sts.getD k noSt).ent=LE at *
    generalize (C.sts.getD k noSt).exi=LX at *
    clear hhas hput hg hgB hb hX hY hS
    go_wp2_with fail
    have HGL:Hid (g < wo.heap.size):=Lib.hid HG.out.lt
    have HS0:Hid (wo.drew.cell? ⟨g,k * 5+2,none⟩=some (.slice iA LI.length icap)∧wo.drew.cell? ⟨g,k * 5+3,none⟩=some (.slice eA LE.length ecap)∧wo.drew.cell? ⟨g,k * 5+4,none⟩=some (.slice xA LX.length xcap)∧Below wo.heap.size wo wo.drew):=Lib.hid ⟨c2,c3,c4,(Below.refl _ _).drew⟩
    have HKEEP:Hid (∀ A B:World,Below wo.heap.size wo A→Below A.heap.size A B→B.cell? ⟨g,k * 5+2,none⟩=some (.slice iA LI.length icap)∧B.cell? ⟨g,k * 5+3,none⟩=some (.slice eA LE.length ecap)∧B.cell? ⟨g,k * 5+4,none⟩=some (.slice xA LX.length xcap)∧Below wo.heap.size wo B):=Lib.hid (fun A B h1 h2=>by
     have h3:=h1.trans (h2.mono h1.size)
     exact ⟨(h3.cell (p:=⟨g,_,none⟩) HGL.out).trans HS0.out.1,(h3.cell (p:=⟨g,_,none⟩) HGL.out).trans HS0.out.2.1,(h3.cell (p:=⟨g,_,none⟩) HGL.out).trans HS0.out.2.2.1,h3⟩)
    clear c2 c3 c4
    refine anyD_start (fun W=>W.cell? ⟨g,k * 5+2,none⟩=some (.slice iA LI.length icap)∧W.cell? ⟨g,k * 5+3,none⟩=some (.slice eA LE.length ecap)∧W.cell? ⟨g,k * 5+4,none⟩=some (.slice xA LX.length xcap)∧Below wo.heap.size wo W) (fun i=>[20,23,26].contains i) (by kernel_rfl) ?_
    refine anyD_t 0 (.pointer (some ⟨g,k * 5,none⟩)) ?_
    try simp only [Act.put,sx]
    refine anyD_t 1 (.pointer (some ⟨g,k * 5,none⟩)) ?_
    try simp only [Act.put,sx]
    refine anyD_t 2 (.pointer (some ⟨g,k * 5,none⟩)) ?_
    try simp only [Act.put,sx]
    refine anyD_t 3 (.pointer (some ⟨g,k * 5,none⟩)) ?_
    try simp only [Act.put,sx]
    refine anyD_t 4 (.pointer (some ⟨g,k * 5,none⟩)) ?_
    try simp only [Act.put,sx]
    refine anyD_t 5 (.pointer (some ⟨g,k * 5+2,none⟩)) ?_
    try simp only [Act.put,sx]
    refine anyD_l 6 (.slice iA LI.length icap) (HS0.out) ?_
    try simp only [Act.put,sx]
    refine anyD_t 8 (.pointer (some ⟨g,k * 5,none⟩)) ?_
    try simp only [Act.put,sx]
    refine anyD_t 9 (.pointer (some ⟨g,k * 5,none⟩)) ?_
    try simp only [Act.put,sx]
    refine anyD_t 10 (.pointer (some ⟨g,k * 5+3,none⟩)) ?_
    try simp only [Act.put,sx]
    refine anyD_l 11 (.slice eA LE.length ecap) (HS0.out) ?_
    try simp only [Act.put,sx]
    refine anyD_t 13 (.pointer (some ⟨g,k * 5,none⟩)) ?_
    try simp only [Act.put,sx]
    refine anyD_t 14 (.pointer (some ⟨g,k * 5,none⟩)) ?_
    try simp only [Act.put,sx]
    refine anyD_t 15 (.pointer (some ⟨g,k * 5+4,none⟩)) ?_
    try simp only [Act.put,sx]
    refine anyD_l 16 (.slice xA LX.length xcap) (HS0.out) ?_
    try simp only [Act.put,sx]
    have HBD:Hid (Below w.heap.size w wo.drew):=Lib.hid HB.out.drew
    refine anyD_one (i:=7) rfl rfl (by kernel_rfl) (fun K HK=>?_)
    go_simp
    refine (copyInt_any _ _ _ _ ((rowIs_ints HHI.out).below HBD.out) n1).mono ?_
    rintro e w3 ⟨hb3,v3,rfl,ho3⟩
    obtain ⟨a3,k3,rfl⟩:=own_form ho3
    have HO3:=Lib.hid ho3
    have HB3:=Lib.hid hb3
    have HBD3:Hid (Below w.heap.size w w3):=Lib.hid (HBD.out.trans (hb3.mono HBD.out.size))
    clear hb3 ho3
    go_simp
    refine HK.out _ _ (fun _ hS=>HKEEP.out _ _ hS.2.2.2 HB3.out) ?_
    clear HK K
    try simp only [Act.put,sx]
    refine anyD_one (i:=12) rfl rfl (by kernel_rfl) (fun K HK=>?_)
    go_simp
    refine (copyAct_any _ _ _ _ ((rowIs_acts HHE.out).below HBD3.out) n2).mono ?_
    rintro e w4 ⟨hb4,v4,rfl,ho4⟩
    obtain ⟨a4,k4,rfl⟩:=own_form ho4
    have HO4:=Lib.hid ho4
    have HB4:=Lib.hid hb4
    have HBD4:Hid (Below w.heap.size w w4):=Lib.hid (HBD3.out.trans (hb4.mono HBD3.out.size))
    clear hb4 ho4
    go_simp
    refine HK.out _ _ (fun _ hS=>HKEEP.out _ _ hS.2.2.2 HB4.out) ?_
    clear HK K
    try simp only [Act.put,sx]
    refine anyD_one (i:=17) rfl rfl (by kernel_rfl) (fun K HK=>?_)
    go_simp
    refine (copyAct_any _ _ _ _ ((rowIs_acts HHX.out).below HBD4.out) n3).mono ?_
    rintro e w5 ⟨hb5,v5,rfl,ho5⟩
    obtain ⟨a5,k5,rfl⟩:=own_form ho5
    have HO5:=Lib.hid ho5
    have HB5:=Lib.hid hb5
    have HBD5:Hid (Below w.heap.size w w5):=Lib.hid (HBD4.out.trans (hb5.mono HBD4.out.size))
    clear hb5 ho5
    go_simp
    refine HK.out _ _ (fun _ hS=>HKEEP.out _ _ hS.2.2.2 HB5.out) ?_
    clear HK K
    try simp only [Act.put,sx]
    have HBO:Hid (Below wo.heap.size wo w5):=Lib.hid ((HS0.out.2.2.2.trans HB3.out).trans ((HB4.out.trans (HB5.out.mono HB4.out.size)).mono (HS0.out.2.2.2.trans HB3.out).size))
    have HG5:=Lib.hid (HG.out.below HBO.out HGL.out)
    obtain ⟨q2,q3,q4,-⟩:=HKEEP.out _ _ ((HS0.out.2.2.2.trans HB3.out).trans (HB4.out.mono (HS0.out.2.2.2.trans HB3.out).size)) HB5.out
    have f2:=HG5.out.frozen (k * 5+2)
    have f3:=HG5.out.frozen (k * 5+3)
    have f4:=HG5.out.frozen (k * 5+4)
    refine anyD_t 18 (.pointer (some ⟨g,k * 5,none⟩)) ?_
    try simp only [Act.put,sx]
    refine anyD_t 19 (.pointer (some ⟨g,k * 5+2,none⟩)) ?_
    try simp only [Act.put,sx]
    refine anyD_one (i:=20) rfl rfl (by kernel_rfl) (fun K HK=>?_)
    go_simp
    refine HK.out _ _ (fun h=>absurd h (by decide)) ?_
    clear HK K
    try simp only [Act.put,sx]
    refine anyD_t 21 (.pointer (some ⟨g,k * 5,none⟩)) ?_
    try simp only [Act.put,sx]
    refine anyD_t 22 (.pointer (some ⟨g,k * 5+3,none⟩)) ?_
    try simp only [Act.put,sx]
    refine anyD_one (i:=23) rfl rfl (by kernel_rfl) (fun K HK=>?_)
    go_simp
    refine HK.out _ _ (fun h=>absurd h (by decide)) ?_
    clear HK K
    try simp only [Act.put,sx]
    refine anyD_t 24 (.pointer (some ⟨g,k * 5,none⟩)) ?_
    try simp only [Act.put,sx]
    refine anyD_t 25 (.pointer (some ⟨g,k * 5+4,none⟩)) ?_
    try simp only [Act.put,sx]
    refine anyD_one (i:=26) rfl rfl (by kernel_rfl) (fun K HK=>?_)
    go_simp
    refine HK.out _ _ (fun h=>absurd h (by decide)) ?_
    clear HK K
    try simp only [Act.put,sx]
    refine anyD_done (by kernel_rfl) ?_
    have HN1:Hid (w.heap.size ≠ g):=Lib.hid (blk_ne HX.out HG.out (by decide))
    have HN2:Hid (w.heap.size+1 ≠ g):=Lib.hid (blk_ne HY.out HG.out (by decide))
    have hsz:wo.heap.size≤w3.heap.size∧w3.heap.size≤w4.heap.size∧w4.heap.size≤w5.heap.size∧w.heap.size≤wo.heap.size:=⟨HB3.out.size,HB4.out.size,HB5.out.size,HB.out.size⟩
    have HX5:=Lib.hid ((((HX.out.below HBO.out HX.out.lt).set_ne HN1.out (k * 5+2) (.slice a3 LI.length k3)).set_ne HN1.out (k * 5+3) (.slice a4 LE.length k4)).set_ne HN1.out (k * 5+4) (.slice a5 LX.length k5))
    have HY5:=Lib.hid ((((HY.out.below HBO.out HY.out.lt).set_ne HN2.out (k * 5+2) (.slice a3 LI.length k3)).set_ne HN2.out (k * 5+3) (.slice a4 LE.length k4)).set_ne HN2.out (k * 5+4) (.slice a5 LX.length k5))
    have HT5:=Lib.hid ((((hT.out.below HBO.out).apart HG5.out (by decide) (by decide) (by decide) (k * 5+2) (.slice a3 LI.length k3)).apart (HG5.out.set_ _ _) (by decide) (by decide) (by decide) (k * 5+3) (.slice a4 LE.length k4)).apart ((HG5.out.set_ _ _).set_ _ _) (by decide) (by decide) (by decide) (k * 5+4) (.slice a5 LX.length k5))
    have HS5:=Lib.hid (HPUT.out w5 (.slice a3 LI.length k3) (.slice a4 LE.length k4) (.slice a5 LX.length k5) HBO.out
     (((OwnInts.of_own HO3.out (by simp; omega)).below HB4.out).below HB5.out) ((OwnActs.of_own HO4.out (by omega)).below HB5.out) (OwnActs.of_own HO5.out (by omega)))
    have HB6:=Lib.hid (((HBD5.out.setCell (p:=⟨g,k * 5+2,none⟩) HGB.out (.slice a3 LI.length k3)).setCell (p:=⟨g,k * 5+3,none⟩) HGB.out (.slice a4 LE.length k4)).setCell (p:=⟨g,k * 5+4,none⟩) HGB.out (.slice a5 LX.length k5))
    clear q2 q3 q4 f2 f3 f4 hsz
    go_wp2_with fail
    go_roundw
    case rel=>exact ⟨k+1,by omega,by go_num,HB6.out,HX5.out,HY5.out,HS5,HT5⟩
    case measure=>simp [intOf]; omega
  · obtain rfl:k=C.sts.length:=by omega
    have HS:=Lib.hid hS.out
    obtain ⟨⟨x0,x1,x2⟩,-⟩:=hX.facts3
    go_wp2_with fail
    clear x0 x1 x2
    go_loopw [53] (fun i wr=>∃ k:Nat,k≤C.trs.length∧i=.int .i64 (k:Int)∧Below w.heap.size w wr∧Blk wr w.heap.size 25 #[.int .i64 C.vars,.slice a1 C.sts.length k1,.slice a2 C.trs.length k2]∧Blk wr (w.heap.size+1) 25 #[.int .i64 0,.slice none 0 0,.slice none 0 0]∧Hid (StsTo w wr (.slice a1 C.sts.length k1) C.sts C.sts.length)∧Hid (TrsTo w wr (.slice a2 C.trs.length k2) C.trs k)) (fun i _=>C.trs.length - (intOf i).toNat)
    case atStart=>exact ⟨0,Nat.zero_le _,rfl,hb,hX,hY,hS,hT⟩
    case round =>
     clear HS hS hT hb hX hY
     obtain ⟨k,hk,rfl,hb,hX,hY,hS,hT⟩:=hrel
     obtain ⟨wp,rfl⟩:∃ wp:World,wp=wr:=⟨_,rfl⟩
     by_cases hlt:k < C.trs.length
     · obtain ⟨g,cap,cur,vt,va,hv,hcap,hg,hgB,hhas,⟨c2,c3⟩,hput⟩:=hT.out.at_ hlt
       injection hv with e1 e2 e3
       subst e1; subst e3
       obtain ⟨iA,icap,eA,ecap,rfl,rfl⟩:=hhas.slices
       obtain ⟨n1,n2⟩:=HLT.out k hlt
       have HHI:Hid (ListAt w (.slice iA (C.trs.getD k noTr).tgts.length icap) (C.trs.getD k noTr).tgts):=Lib.hid hhas.1
       have HHE:Hid (ActsAt w (.slice eA (C.trs.getD k noTr).acts.length ecap) (C.trs.getD k noTr).acts):=Lib.hid hhas.2
       have HPUT:=Lib.hid hput
       have HGB:=Lib.hid hgB
       have HG:=Lib.hid hg
       have HB:=Lib.hid hb
       have HX:=Lib.hid hX
       have HY:=Lib.hid hY
       obtain ⟨⟨x0,x1,x2⟩,-⟩:=hX.facts3
       generalize (C.trs.getD k noTr).tgts=LI at *
       generalize (C.trs.getD k noTr).acts=LE at *
       clear hhas hput hg hgB hb hX hY hT
       go_wp2_with fail
       have HGL:Hid (g < wp.heap.size):=Lib.hid HG.out.lt
       have HS0:Hid (wp.drew.cell? ⟨g,k * 6+3,none⟩=some (.slice iA LI.length icap)∧wp.drew.cell? ⟨g,k * 6+5,none⟩=some (.slice eA LE.length ecap)∧Below wp.heap.size wp wp.drew):=Lib.hid ⟨c2,c3,(Below.refl _ _).drew⟩
       have HKEEP:Hid (∀ A B:World,Below wp.heap.size wp A→Below A.heap.size A B→B.cell? ⟨g,k * 6+3,none⟩=some (.slice iA LI.length icap)∧B.cell? ⟨g,k * 6+5,none⟩=some (.slice eA LE.length ecap)∧Below wp.heap.size wp B):=Lib.hid (fun A B h1 h2=>by
        have h3:=h1.trans (h2.mono h1.size)
        exact ⟨(h3.cell (p:=⟨g,_,none⟩) HGL.out).trans HS0.out.1,(h3.cell (p:=⟨g,_,none⟩) HGL.out).trans HS0.out.2.1,h3⟩)
       clear c2 c3
       refine anyD_start (fun W=>W.cell? ⟨g,k * 6+3,none⟩=some (.slice iA LI.length icap)∧W.cell? ⟨g,k * 6+5,none⟩=some (.slice eA LE.length ecap)∧Below wp.heap.size wp W) (fun i=>[14,17].contains i) (by kernel_rfl) ?_
       refine anyD_t 0 (.pointer (some ⟨g,k * 6,none⟩)) ?_
       try simp only [Act.put,sx]
       refine anyD_t 1 (.pointer (some ⟨g,k * 6,none⟩)) ?_
       try simp only [Act.put,sx]
       refine anyD_t 2 (.pointer (some ⟨g,k * 6,none⟩)) ?_
       try simp only [Act.put,sx]
       refine anyD_t 3 (.pointer (some ⟨g,k * 6,none⟩)) ?_
       try simp only [Act.put,sx]
       refine anyD_t 4 (.pointer (some ⟨g,k * 6+3,none⟩)) ?_
       try simp only [Act.put,sx]
       refine anyD_l 5 (.slice iA LI.length icap) (HS0.out) ?_
       try simp only [Act.put,sx]
       refine anyD_t 7 (.pointer (some ⟨g,k * 6,none⟩)) ?_
       try simp only [Act.put,sx]
       refine anyD_t 8 (.pointer (some ⟨g,k * 6,none⟩)) ?_
       try simp only [Act.put,sx]
       refine anyD_t 9 (.pointer (some ⟨g,k * 6+5,none⟩)) ?_
       try simp only [Act.put,sx]
       refine anyD_l 10 (.slice eA LE.length ecap) (HS0.out) ?_
       try simp only [Act.put,sx]
       have HBD:Hid (Below w.heap.size w wp.drew):=Lib.hid HB.out.drew
       refine anyD_one (i:=6) rfl rfl (by kernel_rfl) (fun K HK=>?_)
       go_simp
       refine (copyInt_any _ _ _ _ ((rowIs_ints HHI.out).below HBD.out) n1).mono ?_
       rintro e w3 ⟨hb3,v3,rfl,ho3⟩
       obtain ⟨a3,k3,rfl⟩:=own_form ho3
       have HO3:=Lib.hid ho3
       have HB3:=Lib.hid hb3
       have HBD3:Hid (Below w.heap.size w w3):=Lib.hid (HBD.out.trans (hb3.mono HBD.out.size))
       clear hb3 ho3
       go_simp
       refine HK.out _ _ (fun _ hS=>HKEEP.out _ _ hS.2.2 HB3.out) ?_
       clear HK K
       try simp only [Act.put,sx]
       refine anyD_one (i:=11) rfl rfl (by kernel_rfl) (fun K HK=>?_)
       go_simp
       refine (copyAct_any _ _ _ _ ((rowIs_acts HHE.out).below HBD3.out) n2).mono ?_
       rintro e w4 ⟨hb4,v4,rfl,ho4⟩
       obtain ⟨a4,k4,rfl⟩:=own_form ho4
       have HO4:=Lib.hid ho4
       have HB4:=Lib.hid hb4
       have HBD4:Hid (Below w.heap.size w w4):=Lib.hid (HBD3.out.trans (hb4.mono HBD3.out.size))
       clear hb4 ho4
       go_simp
       refine HK.out _ _ (fun _ hS=>HKEEP.out _ _ hS.2.2 HB4.out) ?_
       clear HK K
       try simp only [Act.put,sx]
       have HBO:Hid (Below wp.heap.size wp w4):=Lib.hid ((HS0.out.2.2.trans HB3.out).trans (HB4.out.mono (HS0.out.2.2.trans HB3.out).size))
       have HG5:=Lib.hid (HG.out.below HBO.out HGL.out)
       obtain ⟨q2,q3,-⟩:=HKEEP.out _ _ (HS0.out.2.2.trans HB3.out) HB4.out
       have f2:=HG5.out.frozen (k * 6+3)
       have f3:=HG5.out.frozen (k * 6+5)
       refine anyD_t 12 (.pointer (some ⟨g,k * 6,none⟩)) ?_
       try simp only [Act.put,sx]
       refine anyD_t 13 (.pointer (some ⟨g,k * 6+3,none⟩)) ?_
       try simp only [Act.put,sx]
       refine anyD_one (i:=14) rfl rfl (by kernel_rfl) (fun K HK=>?_)
       go_simp
       refine HK.out _ _ (fun h=>absurd h (by decide)) ?_
       clear HK K
       try simp only [Act.put,sx]
       refine anyD_t 15 (.pointer (some ⟨g,k * 6,none⟩)) ?_
       try simp only [Act.put,sx]
       refine anyD_t 16 (.pointer (some ⟨g,k * 6+5,none⟩)) ?_
       try simp only [Act.put,sx]
       refine anyD_one (i:=17) rfl rfl (by kernel_rfl) (fun K HK=>?_)
       go_simp
       refine HK.out _ _ (fun h=>absurd h (by decide)) ?_
       clear HK K
       try simp only [Act.put,sx]
       refine anyD_done (by kernel_rfl) ?_
       have HN1:Hid (w.heap.size ≠ g):=Lib.hid (blk_ne HX.out HG.out (by decide))
       have HN2:Hid (w.heap.size+1 ≠ g):=Lib.hid (blk_ne HY.out HG.out (by decide))
       have hsz:wp.heap.size≤w3.heap.size∧w3.heap.size≤w4.heap.size∧w.heap.size≤wp.heap.size:=⟨HB3.out.size,HB4.out.size,HB.out.size⟩
       have HX5:=Lib.hid (((HX.out.below HBO.out HX.out.lt).set_ne HN1.out (k * 6+3) (.slice a3 LI.length k3)).set_ne HN1.out (k * 6+5) (.slice a4 LE.length k4))
       have HY5:=Lib.hid (((HY.out.below HBO.out HY.out.lt).set_ne HN2.out (k * 6+3) (.slice a3 LI.length k3)).set_ne HN2.out (k * 6+5) (.slice a4 LE.length k4))
       have HS5:=Lib.hid (((hS.out.below HBO.out).apart HG5.out (by decide) (by decide) (by decide) (k * 6+3) (.slice a3 LI.length k3)).apart (HG5.out.set_ _ _) (by decide) (by decide) (by decide) (k * 6+5) (.slice a4 LE.length k4))
       have HT5:=Lib.hid (HPUT.out w4 (.slice a3 LI.length k3) (.slice a4 LE.length k4) HBO.out
        ((OwnInts.of_own HO3.out (by simp; omega)).below HB4.out) (OwnActs.of_own HO4.out (by omega)))
       have HB6:=Lib.hid ((HBD4.out.setCell (p:=⟨g,k * 6+3,none⟩) HGB.out (.slice a3 LI.length k3)).setCell (p:=⟨g,k * 6+5,none⟩) HGB.out (.slice a4 LE.length k4))
       clear q2 q3 f2 f3 hsz
       go_wp2_with fail
       go_roundw
       case rel=>exact ⟨k+1,by omega,by go_num,HB6.out,HX5.out,HY5.out,HS5,HT5⟩
       case measure=>simp [intOf]; omega
     · obtain rfl:k=C.trs.length:=by omega
       have HB:=Lib.hid hb
       have HX:=Lib.hid hX
       have HY:=Lib.hid hY
       have HST:=Lib.hid (hS.out)
       have HTT:=Lib.hid (hT.out)
       obtain ⟨⟨x0,x1,x2⟩,-⟩:=hX.facts3
       obtain ⟨⟨y0,y1,y2⟩,z0,z1,z2⟩:=hY.facts3
       clear hX hY hb hS hT
       go_wp2_with fail
       refine bodyPost_ret (results_own rfl _ _ _ rfl (load_ch (((HY.out.set_ 0 _).set_ 1 _).set_ 2 _))) rfl ?_
       have q1:=HY.out.set_ 0 (.int .i64 C.vars)
       have q2:=q1.set_ 1 (.slice a1 C.sts.length k1)
       obtain ⟨rs',e1,o1⟩:=(((HST.out.apart HY.out (by decide) (by decide) (by decide) 0 (.int .i64 C.vars)).apart q1 (by decide) (by decide) (by decide) 1 (.slice a1 C.sts.length k1)).apart q2 (by decide) (by decide) (by decide) 2 (.slice a2 C.trs.length k2)).own
       obtain ⟨ts',e2,o2⟩:=(((HTT.out.apart HY.out (by decide) (by decide) (by decide) 0 (.int .i64 C.vars)).apart q1 (by decide) (by decide) (by decide) 1 (.slice a1 C.sts.length k1)).apart q2 (by decide) (by decide) (by decide) 2 (.slice a2 C.trs.length k2)).own
       exact ⟨((HB.out.setCell (p:=⟨w.heap.size+1,0,none⟩) (by simp) _).setCell (p:=⟨w.heap.size+1,1,none⟩) (by simp) _).setCell (p:=⟨w.heap.size+1,2,none⟩) (by simp) _,_,_,rfl,rs',ts',e1,e2,o1,o2⟩
end Go.Proofs.YtmhkpjcdkjnlnaaGreatDoor
