/- The contracts of tree's copyOf: a row of its own with the same cells. -/
import Derived.Test.YtmhkpjcdkjnlnaaGreatDoorFWCgen
import Derived.Test.YtmhkpjcdkjnlnaaGreatDoorFWEstepl
import Derived.Maps.AppendAt
import Derived.Test.YtmhkpjcdkjnlnaaGreatDoorFWCref
import Derived.Test.YtmhkpjcdkjnlnaaGreatDoorFWCarg
import Derived.Laws.OwnMore
namespace Go.Proofs.YtmhkpjcdkjnlnaaGreatDoor
open Go.ChangeShapes Go.WideShapes Go.ChangeAt Go.RowKit
set_option linter.unusedVariables false

theorem Tryz.infoActs:(Tryz.prog.info? 104).map (fun i=>(i.zero,i.size,i.bytes))=some (some (.agg #[.int .i64 0,.int .i64 0,.int .i64 0,.string ⟨#[]⟩]),4,40):=by kernel_rfl
theorem Tryz.infoSts:(Tryz.prog.info? 63).map (fun i=>(i.zero,i.size,i.bytes))=some (some (.agg #[.int .i64 0,.int .i64 0,.slice none 0 0,.slice none 0 0,.slice none 0 0]),5,88):=by kernel_rfl
theorem Tryz.infoTrs:(Tryz.prog.info? 66).map (fun i=>(i.zero,i.size,i.bytes))=some (some (.agg #[.int .i64 0,.int .i64 0,.string ⟨#[]⟩,.slice none 0 0,.bool false,.slice none 0 0]),6,88):=by kernel_rfl
def RowIs (w:World) (n:Nat) (v:Value) (len:Nat) (news:List Value):Prop :=
 news.length=len * n∧((∃ c,v=.slice none 0 c∧len=0) ∨ ∃ ad cap,v=.slice (some ad) len cap∧(∀ j u,news[j]?=some u→w.cell? (ad.add j)=some u)∧∀ u ∈ news,u.oneCell'=true)
def CopyPost (e n len:Nat) (news:List Value) (w:World) (E:Ending) (w':World):Prop:=Below w.heap.size w w'∧∃ v,E=.returned v∧w'.ownsRow w.heap.size e n v len news
set_option maxHeartbeats 1000000 in
theorem copyInt_any (v:Value) (len:Nat) (news:List Value) (w:World) (h:RowIs w 1 v len news) (hl:len≤1000):Calls Tryz.prog 63 #[v] w (CopyPost 3 1 len news w):=by
 obtain ⟨hn,⟨c,rfl,rfl⟩ | ⟨ad,cap,rfl,hc,ho⟩⟩:=h
 · obtain rfl:news=[]:=List.eq_nil_of_length_eq_zero (by simpa using hn)
   have HB:=Lib.hid (Below.refl w.heap.size w)
   clear hn
   go_enter Tryz.func63,Tryz.ntmps63
   go_wp2_with fail
   go_ret
   exact ⟨Below.refl _ _,_,rfl,World.ownsRow_nil _ _ _ _⟩
 · obtain ⟨i0,hi,hz0,hz1,hz2⟩:=info_parts Tryz.info3
   have HI:=Lib.hid hi
   have HZ0:=Lib.hid hz0
   have HZ1:=Lib.hid hz1
   have HZ2:=Lib.hid hz2
   have HN:=Lib.hid hn
   have HC:=Lib.hid hc
   have HO:=Lib.hid ho
   clear hi hz0 hz1 hz2 hn hc ho
   go_enter Tryz.func63,Tryz.ntmps63
   go_wp2_with (at_builtin; refine wpList_append_own_at _ rfl _ _ 36 rfl w.heap.size 3 i0 (.int .i64 0) 1 8 Tryz.underlying36 HI.out HZ0.out HZ1.out HZ2.out rfl (by decide) _ 0 [] rfl (World.ownsRow_nil _ _ _ _) ad len cap news rfl HN.out ?c1 HO.out ?c3 ?c4 ?c5 ?_)
   case c1=>exact HC.out
   case c3=>unfold maxLen; omega
   case c4=>omega
   case c5=>exact Nat.le_refl _
   intro v' w2 hown' hgrow _ _
   have HG:=Lib.hid (Below.grown (Below.refl w.heap.size w) hgrow (Nat.le_refl _) (fun g hg=>by cases hg))
   have HW:=Lib.hid hown'
   clear hown' hgrow
   go_wp2
   go_ret
   exact ⟨HG.out,_,rfl,by simpa using HW.out⟩
set_option maxHeartbeats 1000000 in
theorem copyAct_any (v:Value) (len:Nat) (news:List Value) (w:World) (h:RowIs w 4 v len news) (hl:len≤1000):Calls Tryz.prog 64 #[v] w (CopyPost 104 4 len news w):=by
 obtain ⟨hn,⟨c,rfl,rfl⟩ | ⟨ad,cap,rfl,hc,ho⟩⟩:=h
 · obtain rfl:news=[]:=List.eq_nil_of_length_eq_zero (by simpa using hn)
   have HB:=Lib.hid (Below.refl w.heap.size w)
   clear hn
   go_enter Tryz.func64,Tryz.ntmps64
   go_wp2_with fail
   go_ret
   exact ⟨Below.refl _ _,_,rfl,World.ownsRow_nil _ _ _ _⟩
 · obtain ⟨i0,hi,hz0,hz1,hz2⟩:=info_parts Tryz.infoActs
   have HI:=Lib.hid hi
   have HZ0:=Lib.hid hz0
   have HZ1:=Lib.hid hz1
   have HZ2:=Lib.hid hz2
   have HN:=Lib.hid hn
   have HC:=Lib.hid hc
   have HO:=Lib.hid ho
   clear hi hz0 hz1 hz2 hn hc ho
   go_enter Tryz.func64,Tryz.ntmps64
   go_wp2_with (at_builtin; refine wpList_append_own_at _ rfl _ _ 61 rfl w.heap.size 104 i0 (.agg #[.int .i64 0,.int .i64 0,.int .i64 0,.string ⟨#[]⟩]) 4 40 Tryz.underlying61 HI.out HZ0.out HZ1.out HZ2.out rfl (by decide) _ 0 [] rfl (World.ownsRow_nil _ _ _ _) ad len cap news rfl HN.out ?c1 HO.out ?c3 ?c4 ?c5 ?_)
   case c1=>exact HC.out
   case c3=>unfold maxLen; omega
   case c4=>omega
   case c5=>exact Nat.le_refl _
   intro v' w2 hown' hgrow _ _
   have HG:=Lib.hid (Below.grown (Below.refl w.heap.size w) hgrow (Nat.le_refl _) (fun g hg=>by cases hg))
   have HW:=Lib.hid hown'
   clear hown' hgrow
   go_wp2
   go_ret
   exact ⟨HG.out,_,rfl,by simpa using HW.out⟩
set_option maxHeartbeats 1000000 in
theorem copySt_any (v:Value) (len:Nat) (news:List Value) (w:World) (h:RowIs w 5 v len news) (hl:len≤1000):Calls Tryz.prog 61 #[v] w (CopyPost 63 5 len news w):=by
 obtain ⟨hn,⟨c,rfl,rfl⟩ | ⟨ad,cap,rfl,hc,ho⟩⟩:=h
 · obtain rfl:news=[]:=List.eq_nil_of_length_eq_zero (by simpa using hn)
   have HB:=Lib.hid (Below.refl w.heap.size w)
   clear hn
   go_enter Tryz.func61,Tryz.ntmps61
   go_wp2_with fail
   go_ret
   exact ⟨Below.refl _ _,_,rfl,World.ownsRow_nil _ _ _ _⟩
 · obtain ⟨i0,hi,hz0,hz1,hz2⟩:=info_parts Tryz.infoSts
   have HI:=Lib.hid hi
   have HZ0:=Lib.hid hz0
   have HZ1:=Lib.hid hz1
   have HZ2:=Lib.hid hz2
   have HN:=Lib.hid hn
   have HC:=Lib.hid hc
   have HO:=Lib.hid ho
   clear hi hz0 hz1 hz2 hn hc ho
   go_enter Tryz.func61,Tryz.ntmps61
   go_wp2_with (at_builtin; refine wpList_append_own_at _ rfl _ _ 22 rfl w.heap.size 63 i0 (.agg #[.int .i64 0,.int .i64 0,.slice none 0 0,.slice none 0 0,.slice none 0 0]) 5 88 Tryz.underlying22 HI.out HZ0.out HZ1.out HZ2.out rfl (by decide) _ 0 [] rfl (World.ownsRow_nil _ _ _ _) ad len cap news rfl HN.out ?c1 HO.out ?c3 ?c4 ?c5 ?_)
   case c1=>exact HC.out
   case c3=>unfold maxLen; omega
   case c4=>omega
   case c5=>exact Nat.le_refl _
   intro v' w2 hown' hgrow _ _
   have HG:=Lib.hid (Below.grown (Below.refl w.heap.size w) hgrow (Nat.le_refl _) (fun g hg=>by cases hg))
   have HW:=Lib.hid hown'
   clear hown' hgrow
   go_wp2
   go_ret
   exact ⟨HG.out,_,rfl,by simpa using HW.out⟩
set_option maxHeartbeats 1000000 in
theorem copyTr_any (v:Value) (len:Nat) (news:List Value) (w:World) (h:RowIs w 6 v len news) (hl:len≤1000):Calls Tryz.prog 62 #[v] w (CopyPost 66 6 len news w):=by
 obtain ⟨hn,⟨c,rfl,rfl⟩ | ⟨ad,cap,rfl,hc,ho⟩⟩:=h
 · obtain rfl:news=[]:=List.eq_nil_of_length_eq_zero (by simpa using hn)
   have HB:=Lib.hid (Below.refl w.heap.size w)
   clear hn
   go_enter Tryz.func62,Tryz.ntmps62
   go_wp2_with fail
   go_ret
   exact ⟨Below.refl _ _,_,rfl,World.ownsRow_nil _ _ _ _⟩
 · obtain ⟨i0,hi,hz0,hz1,hz2⟩:=info_parts Tryz.infoTrs
   have HI:=Lib.hid hi
   have HZ0:=Lib.hid hz0
   have HZ1:=Lib.hid hz1
   have HZ2:=Lib.hid hz2
   have HN:=Lib.hid hn
   have HC:=Lib.hid hc
   have HO:=Lib.hid ho
   clear hi hz0 hz1 hz2 hn hc ho
   go_enter Tryz.func62,Tryz.ntmps62
   go_wp2_with (at_builtin; refine wpList_append_own_at _ rfl _ _ 23 rfl w.heap.size 66 i0 (.agg #[.int .i64 0,.int .i64 0,.string ⟨#[]⟩,.slice none 0 0,.bool false,.slice none 0 0]) 6 88 Tryz.underlying23 HI.out HZ0.out HZ1.out HZ2.out rfl (by decide) _ 0 [] rfl (World.ownsRow_nil _ _ _ _) ad len cap news rfl HN.out ?c1 HO.out ?c3 ?c4 ?c5 ?_)
   case c1=>exact HC.out
   case c3=>unfold maxLen; omega
   case c4=>omega
   case c5=>exact Nat.le_refl _
   intro v' w2 hown' hgrow _ _
   have HG:=Lib.hid (Below.grown (Below.refl w.heap.size w) hgrow (Nat.le_refl _) (fun g hg=>by cases hg))
   have HW:=Lib.hid hown'
   clear hown' hgrow
   go_wp2
   go_ret
   exact ⟨HG.out,_,rfl,by simpa using HW.out⟩

abbrev StRow:=St × Value × Value × Value
abbrev TrRow:=Tr × Value × Value
def actCells (a:Ac):List Value:=[.int .i64 a.kind,.int .i64 a.n,.int .i64 a.m,.string a.expr]
def stateCells (r:StRow):List Value:=[.int .i64 r.1.kind,.int .i64 r.1.par,r.2.1,r.2.2.1,r.2.2.2]
def transCells (r:TrRow):List Value:=[.int .i64 r.1.src,.int .i64 r.1.ev,.string r.1.guard,r.2.1,.bool r.1.inner,r.2.2]
theorem actCells_len (a:Ac):(actCells a).length=4:=rfl
theorem stateCells_len (a:StRow):(stateCells a).length=5:=rfl
theorem transCells_len (a:TrRow):(transCells a).length=6:=rfl
theorem flatMap_len {ρ:Type} {cells:ρ→List Value} {n:Nat} (hn:∀ r,(cells r).length=n):∀ xs:List ρ,(xs.flatMap cells).length=xs.length * n
 | []=>by simp
 | x :: xs=>by rw [List.flatMap_cons,List.length_append,hn,flatMap_len hn xs,List.length_cons,Nat.succ_mul]; omega
theorem cells_flat {ρ:Type} {cells:ρ→List Value} {n:Nat} (hn:∀ r,(cells r).length=n):∀ (xs:List ρ) (i:Nat) (x:ρ) (j:Nat) (u:Value),xs[i]?=some x→(cells x)[j]?=some u→(xs.flatMap cells)[i * n+j]?=some u
 | [],i,x,j,u,h,_=>by simp at h
 | y :: ys,0,x,j,u,h,hu=>by
  simp at h
  subst h
  have hj:=(List.getElem?_eq_some_iff.1 hu).1
  rw [List.flatMap_cons,Nat.zero_mul,Nat.zero_add,List.getElem?_append_left hj]
  exact hu
 | y :: ys,i+1,x,j,u,h,hu=>by
  simp at h
  rw [List.flatMap_cons,List.getElem?_append_right (by rw [hn,Nat.succ_mul]; omega),hn,show (i+1) * n+j - n=i * n+j by rw [Nat.succ_mul]; omega]
  exact cells_flat hn ys i x j u h hu
theorem cells_inv {ρ:Type} {cells:ρ→List Value} {n:Nat} (hn:∀ r,(cells r).length=n):∀ (xs:List ρ) (k:Nat) (u:Value),(xs.flatMap cells)[k]?=some u→∃ i j x,k=i * n+j∧xs[i]?=some x∧(cells x)[j]?=some u
 | [],k,u,h=>by simp at h
 | y :: ys,k,u,h=>by
  rw [List.flatMap_cons] at h
  by_cases hk:k < (cells y).length
  · rw [List.getElem?_append_left hk] at h
    exact ⟨0,k,y,by omega,rfl,h⟩
  · rw [List.getElem?_append_right (by omega)] at h
    obtain ⟨i,j,x,h1,h2,h3⟩:=cells_inv hn ys _ u h
    refine ⟨i+1,j,x,?_,by simpa using h2,h3⟩
    rw [hn] at h1 hk
    rw [Nat.succ_mul]
    omega

theorem rowIs_of {α:Type} {n:Nat} {P:World→Nat→Nat→α→Prop} {cells:α→List Value} {w:World} {v:Value} {xs:List α} (hn:∀ r,(cells r).length=n) (hpos:0 < n) (h:RowsAt n P w v xs)
 (hP:∀ b o x,P w b o x→∀ j u,(cells x)[j]?=some u→w.cell? ⟨b,o+j,none⟩=some u) (h1:∀ x ∈ xs,∀ u ∈ cells x,u.oneCell'=true):RowIs w n v xs.length (xs.flatMap cells):=by
 refine ⟨flatMap_len hn xs,?_⟩
 obtain ⟨A,cap,rfl,hc,hi⟩:=h
 have ho:∀ u ∈ xs.flatMap cells,u.oneCell'=true:=by
  intro u hu
  obtain ⟨x,hx,hu⟩:=List.mem_flatMap.1 hu
  exact h1 x hx u hu
 cases A with
 | none =>
  cases xs with
  | nil=>exact .inl ⟨cap,rfl,rfl⟩
  | cons x xs=>obtain ⟨b,o,hA,_⟩:=hi 0 x rfl; cases hA
 | some a =>
  refine .inr ⟨a,cap,rfl,fun k u hu=>?_,ho⟩
  obtain ⟨i,j,x,rfl,hx,hj⟩:=cells_inv hn xs k u hu
  obtain ⟨b,o,hA,_,hp⟩:=hi i x hx
  injection hA with hA
  subst hA
  rw [flat_add]
  have:=hP b _ x hp j u hj
  rw [← this]
  congr 2
  omega
theorem one_mem {v:Value} {u:Value} (h:v.oneCell'=true) (hu:u ∈ [v]):u.oneCell'=true:=by rw [List.mem_singleton.1 hu]; exact h
abbrev intCells:Int→List Value:=fun x=>[.int .i64 x]
theorem ints_flat:∀ L:List Int,L.flatMap intCells=intVals L
 | []=>rfl
 | x :: L=>by rw [List.flatMap_cons,ints_flat L]; rfl
theorem rowIs_ints {w:World} {v:Value} {L:List Int} (h:ListAt w v L):RowIs w 1 v L.length (intVals L):=by
 have:=rowIs_of (cells:=intCells) (fun _=>rfl) (by decide) h (fun b o x hp j u hu=>by
  cases j with
  | zero=>simp at hu; subst hu; exact hp
  | succ j=>simp at hu) (fun x _ u hu=>one_mem rfl hu)
 rwa [ints_flat] at this
theorem rowIs_acts {w:World} {v:Value} {L:List Ac} (h:ActsAt w v L):RowIs w 4 v L.length (L.flatMap actCells) :=
 rowIs_of actCells_len (by decide) h (fun b o x hp j u hu=>by
  obtain ⟨p0,p1,p2,p3⟩:=hp
  match j,hu with
  | 0,hu=>simp [actCells] at hu; subst hu; exact p0
  | 1,hu=>simp [actCells] at hu; subst hu; exact p1
  | 2,hu=>simp [actCells] at hu; subst hu; exact p2
  | 3,hu=>simp [actCells] at hu; subst hu; exact p3
  | j+4,hu=>simp [actCells] at hu) (fun x _ u hu=>by
  simp only [actCells,List.mem_cons,List.mem_nil_iff,or_false] at hu
  rcases hu with rfl | rfl | rfl | rfl <;> rfl)
theorem RowsAt.one {α:Type} {n:Nat} {P:World→Nat→Nat→α→Prop} {w:World} {v:Value} {xs:List α} (h:RowsAt n P w v xs):v.oneCell'=true:=by
 obtain ⟨A,cap,rfl,_⟩:=h
 rfl
def StRowAt (w:World) (b o:Nat) (r:StRow):Prop:=StC w b o r.1 r.2.1 r.2.2.1 r.2.2.2∧StHas w r.2.1 r.2.2.1 r.2.2.2 r.1
def TrRowAt (w:World) (b o:Nat) (r:TrRow):Prop:=TrC w b o r.1 r.2.1 r.2.2∧TrHas w r.2.1 r.2.2 r.1
theorem raws_of {α ρ:Type} {n:Nat} {P:World→Nat→Nat→α→Prop} {R:World→Nat→Nat→ρ→Prop} {val:ρ→α} {w:World} {v:Value} {xs:List α} (h:RowsAt n P w v xs) (hR:∀ b o x,P w b o x→∃ r,val r=x∧R w b o r) :
 ∃ rs:List ρ,rs.map val=xs∧RowsAt n R w v rs:=by
 obtain ⟨A,cap,rfl,hc,hi⟩:=h
 obtain ⟨rs,hl,hx⟩:=list_of (fun i (r:ρ)=>∃ b o:Nat,A=some ⟨b,o,none⟩∧b < w.heap.size∧xs[i]?=some (val r)∧R w b (o+i * n) r) xs.length (fun i hi'=>by
  obtain ⟨b,o,hA,hb,hp⟩:=hi i _ (List.getElem?_eq_getElem hi')
  obtain ⟨r,hv,hr⟩:=hR _ _ _ hp
  exact ⟨r,b,o,hA,hb,by rw [hv]; exact List.getElem?_eq_getElem hi',hr⟩)
 refine ⟨rs,?_,A,cap,by rw [hl],by rw [hl]; exact hc,fun i r hr=>?_⟩
 · apply List.ext_getElem?
   intro i
   rw [List.getElem?_map]
   cases hr:rs[i]? with
   | none =>
    have:=List.getElem?_eq_none_iff.1 hr
    rw [Option.map_none,List.getElem?_eq_none (by omega)]
   | some r =>
    obtain ⟨_,_,_,_,h4,_⟩:=hx i r hr
    rw [Option.map_some,h4]
 · obtain ⟨b,o,h1,h2,_,h4⟩:=hx i r hr
   exact ⟨b,o,h1,h2,h4⟩
theorem rawSts_of {w:World} {v:Value} {S:List St} (h:StsAt w v S):∃ rs:List StRow,rs.map (fun r=>r.1)=S∧RowsAt 5 StRowAt w v rs :=
 raws_of h (fun b o x ⟨vi,ve,vx,h1,h2⟩=>⟨(x,vi,ve,vx),rfl,h1,h2⟩)
theorem rawTrs_of {w:World} {v:Value} {S:List Tr} (h:TrsAt w v S):∃ rs:List TrRow,rs.map (fun r=>r.1)=S∧RowsAt 6 TrRowAt w v rs :=
 raws_of h (fun b o x ⟨vt,va,h1,h2⟩=>⟨(x,vt,va),rfl,h1,h2⟩)
theorem RowsAt.mem {α:Type} {n:Nat} {P:World→Nat→Nat→α→Prop} {w:World} {v:Value} {xs:List α} (h:RowsAt n P w v xs):∀ x ∈ xs,∃ b o,P w b o x:=by
 intro x hx
 obtain ⟨i,hi⟩:=List.getElem?_of_mem hx
 obtain ⟨A,cap,_,_,h2⟩:=h
 obtain ⟨b,o,_,_,hp⟩:=h2 i x hi
 exact ⟨b,_,hp⟩
theorem rowIs_sts {w:World} {v:Value} {rs:List StRow} (h:RowsAt 5 StRowAt w v rs):RowIs w 5 v rs.length (rs.flatMap stateCells) :=
 rowIs_of stateCells_len (by decide) h (fun b o x hp j u hu=>by
  obtain ⟨p0,p1,p2,p3,p4⟩:=hp.1
  match j,hu with
  | 0,hu=>simp [stateCells] at hu; subst hu; exact p0
  | 1,hu=>simp [stateCells] at hu; subst hu; exact p1
  | 2,hu=>simp [stateCells] at hu; subst hu; exact p2
  | 3,hu=>simp [stateCells] at hu; subst hu; exact p3
  | 4,hu=>simp [stateCells] at hu; subst hu; exact p4
  | j+5,hu=>simp [stateCells] at hu) (fun x hx u hu=>by
  obtain ⟨b,o,_,q1,q2,q3⟩:=h.mem x hx
  simp only [stateCells,List.mem_cons,List.mem_nil_iff,or_false] at hu
  rcases hu with rfl | rfl | rfl | rfl | rfl
  · rfl
  · rfl
  · exact RowsAt.one q1
  · exact RowsAt.one q2
  · exact RowsAt.one q3)
theorem rowIs_trs {w:World} {v:Value} {rs:List TrRow} (h:RowsAt 6 TrRowAt w v rs):RowIs w 6 v rs.length (rs.flatMap transCells) :=
 rowIs_of transCells_len (by decide) h (fun b o x hp j u hu=>by
  obtain ⟨p0,p1,p2,p3,p4,p5⟩:=hp.1
  match j,hu with
  | 0,hu=>simp [transCells] at hu; subst hu; exact p0
  | 1,hu=>simp [transCells] at hu; subst hu; exact p1
  | 2,hu=>simp [transCells] at hu; subst hu; exact p2
  | 3,hu=>simp [transCells] at hu; subst hu; exact p3
  | 4,hu=>simp [transCells] at hu; subst hu; exact p4
  | 5,hu=>simp [transCells] at hu; subst hu; exact p5
  | j+6,hu=>simp [transCells] at hu) (fun x hx u hu=>by
  obtain ⟨b,o,_,q1,q2⟩:=h.mem x hx
  simp only [transCells,List.mem_cons,List.mem_nil_iff,or_false] at hu
  rcases hu with rfl | rfl | rfl | rfl | rfl | rfl
  · rfl
  · rfl
  · rfl
  · exact RowsAt.one q1
  · rfl
  · exact RowsAt.one q2)

def RowAt {ρ:Type} (B:Nat) (w:World) (e n:Nat) (cells:ρ→List Value) (v:Value) (rs:List ρ):Prop :=
 (v=.slice none 0 0∧rs=[]) ∨
 ∃ g cap cur,v=.slice (some ⟨g,0,none⟩) rs.length cap∧B≤g∧Blk w g e cur∧rs.length≤cap∧∀ i r j u,rs[i]?=some r→(cells r)[j]?=some u→cur[i * n+j]?=some u
theorem RowAt.of_own {ρ:Type} {B:Nat} {w:World} {e n:Nat} {cells:ρ→List Value} {v:Value} {rs:List ρ} (hn:∀ r,(cells r).length=n) (h:w.ownsRow B e n v rs.length (rs.flatMap cells)):RowAt B w e n cells v rs:=by
 rcases h.2 with ⟨rfl,hz⟩ | ⟨g,cap,cur,rfl,hB,hg,hc,_,hs,ht⟩
 · exact .inl ⟨rfl,List.eq_nil_of_length_eq_zero hz⟩
 · refine .inr ⟨g,cap,cur,rfl,hB,hg,hc,fun i r j u hr hu=>?_⟩
   have hj:=(List.getElem?_eq_some_iff.1 hu).1
   rw [hn] at hj
   have hi:=(List.getElem?_eq_some_iff.1 hr).1
   have hlt:i * n+j < rs.length * n:=by
    have:=Nat.mul_le_mul_right n (show i+1≤rs.length from hi)
    rw [Nat.succ_mul] at this
    omega
   have:=cells_flat hn rs i r j u hr hu
   rw [← ht,List.getElem?_take,if_pos hlt] at this
   rw [← this]
   simp
theorem RowAt.below {ρ:Type} {B:Nat} {w w':World} {e n:Nat} {cells:ρ→List Value} {v:Value} {rs:List ρ} (h:RowAt B w e n cells v rs) (hb:Below w.heap.size w w'):RowAt B w' e n cells v rs:=by
 rcases h with h | ⟨g,cap,cur,h1,h2,h3,h4,h5⟩
 · exact .inl h
 · exact .inr ⟨g,cap,cur,h1,h2,h3.below hb h3.lt,h4,h5⟩
theorem RowAt.lower {ρ:Type} {B B':Nat} {w:World} {e n:Nat} {cells:ρ→List Value} {v:Value} {rs:List ρ} (h:RowAt B w e n cells v rs) (hB:B'≤B):RowAt B' w e n cells v rs:=by
 rcases h with h | ⟨g,cap,cur,h1,h2,h3⟩
 · exact .inl h
 · exact .inr ⟨g,cap,cur,h1,Nat.le_trans hB h2,h3⟩
theorem RowAt.apart {ρ:Type} {B:Nat} {w:World} {e n g t:Nat} {cells:ρ→List Value} {v:Value} {rs:List ρ} {cs:Array Value} (h:RowAt B w e n cells v rs) (hg:Blk w g t cs) (het:e ≠ t) (j:Nat) (u:Value):RowAt B (w.setCell ⟨g,j,none⟩ u) e n cells v rs:=by
 rcases h with h | ⟨g',cap,cur,h1,h2,h3,h4⟩
 · exact .inl h
 · refine .inr ⟨g',cap,cur,h1,h2,?_,h4⟩
   have hne:g' ≠ g:=by
    intro he
    subst he
    unfold Blk at hg h3
    rw [hg] at h3
    injection h3 with h3
    injection h3 with _ h5
    exact het h5.symm
   show _=_
   rw [Below.heap_setCell w ⟨g,j,none⟩ u g' hne]
   exact h3
theorem RowAt.put {ρ:Type} {B:Nat} {w:World} {e n g len cap:Nat} {cells:ρ→List Value} {rs:List ρ} {r r':ρ} {i j:Nat} {u:Value} (hn:∀ r,(cells r).length=n) (h:RowAt B w e n cells (.slice (some ⟨g,0,none⟩) len cap) rs) (hr:rs[i]?=some r) (hj:j < n) (hu:cells r'=(cells r).set j u) :
 RowAt B (w.setCell ⟨g,i * n+j,none⟩ u) e n cells (.slice (some ⟨g,0,none⟩) len cap) (rs.set i r'):=by
 rcases h with ⟨h0,_⟩ | ⟨g',cap',cur,h1,h2,h3,h4,h5⟩
 · cases h0
 · injection h1 with e1 e2 e3
   injection e1 with e1
   injection e1 with e4
   subst e4; subst e2; subst e3
   refine .inr ⟨g,cap,cur.setIfInBounds (i * n+j) u,by rw [List.length_set],h2,h3.set_ _ _,by rw [List.length_set]; exact h4,fun i' x j' u' hx hu'=>?_⟩
   have hj':j' < n:=by have:=(List.getElem?_eq_some_iff.1 hu').1; rwa [hn] at this
   by_cases hi:i'=i
   · subst hi
     have hlt:=(List.getElem?_eq_some_iff.1 hr).1
     rw [List.getElem?_set_self hlt] at hx
     injection hx with hx
     subst hx
     rw [hu] at hu'
     by_cases hjj:j'=j
     · subst hjj
       rw [List.getElem?_set_self (by rw [hn]; exact hj)] at hu'
       injection hu' with hu'
       subst hu'
       have hold:=h5 i' r j' _ hr (List.getElem?_eq_getElem (by rw [hn]; exact hj))
       have:=(Array.getElem?_eq_some_iff.1 hold).1
       rw [Array.getElem?_setIfInBounds_self_of_lt this]
     · rw [List.getElem?_set_ne (Ne.symm hjj)] at hu'
       rw [Array.getElem?_setIfInBounds_ne (by omega)]
       exact h5 i' r j' u' hr hu'
   · rw [List.getElem?_set_ne (Ne.symm hi)] at hx
     have hne:i * n+j ≠ i' * n+j':=by
      intro he
      rcases Nat.lt_or_gt_of_ne hi with hl | hl
      · have:=Nat.mul_le_mul_right n (show i'+1≤i from hl)
        rw [Nat.succ_mul] at this
        omega
      · have:=Nat.mul_le_mul_right n (show i+1≤i' from hl)
        rw [Nat.succ_mul] at this
        omega
     rw [Array.getElem?_setIfInBounds_ne hne]
     exact h5 i' x j' u' hx hu'
theorem RowAt.rows {ρ α:Type} {B:Nat} {w:World} {e n:Nat} {cells:ρ→List Value} {v:Value} {rs:List ρ} {val:ρ→α} {P:World→Nat→Nat→α→Prop} (h:RowAt B w e n cells v rs)
 (hP:∀ r ∈ rs,∀ b o,(∀ j u,(cells r)[j]?=some u→w.cell? ⟨b,o+j,none⟩=some u)→P w b o (val r)):RowsAt n P w v (rs.map val):=by
 rcases h with ⟨rfl,rfl⟩ | ⟨g,cap,cur,rfl,hB,hg,hc,h5⟩
 · exact RowsAt.nil _
 · refine ⟨_,cap,by rw [List.length_map],by rw [List.length_map]; exact hc,fun i x hx=>?_⟩
   rw [List.getElem?_map] at hx
   obtain ⟨r,hr,rfl⟩:=Option.map_eq_some_iff.1 hx
   refine ⟨g,0,rfl,hg.lt,hP r (List.mem_of_getElem? hr) _ _ fun j u hu=>?_⟩
   rw [hg.cell,Nat.zero_add]
   exact h5 i r j u hr hu
theorem RowAt.at_ {ρ:Type} {B:Nat} {w:World} {e n:Nat} {cells:ρ→List Value} {v:Value} {rs:List ρ} (h:RowAt B w e n cells v rs) {i:Nat} {r:ρ} (hr:rs[i]?=some r) :
 ∃ g cap cur,v=.slice (some ⟨g,0,none⟩) rs.length cap∧rs.length≤cap∧B≤g∧Blk w g e cur∧∀ j u,(cells r)[j]?=some u→w.cell? ⟨g,i * n+j,none⟩=some u∧w.frozen? ⟨g,i * n+j,none⟩=false:=by
 rcases h with ⟨rfl,rfl⟩ | ⟨g,cap,cur,rfl,hB,hg,hc,h5⟩
 · simp at hr
 · exact ⟨g,cap,cur,rfl,hc,hB,hg,fun j u hu=>⟨by rw [hg.cell]; exact h5 i r j u hr hu,hg.frozen _⟩⟩

def OwnInts (B:Nat) (w:World) (v:Value) (L:List Int):Prop:=RowAt B w 3 1 intCells v L
def OwnActs (B:Nat) (w:World) (v:Value) (L:List Ac):Prop:=RowAt B w 104 4 actCells v L
def Own3 (B:Nat) (w:World) (r:StRow):Prop:=OwnInts B w r.2.1 r.1.ini∧OwnActs B w r.2.2.1 r.1.ent∧OwnActs B w r.2.2.2 r.1.exi
def Own2 (B:Nat) (w:World) (r:TrRow):Prop:=OwnInts B w r.2.1 r.1.tgts∧OwnActs B w r.2.2 r.1.acts
theorem Own3.below {B:Nat} {w w':World} {r:StRow} (h:Own3 B w r) (hb:Below w.heap.size w w'):Own3 B w' r:=⟨RowAt.below h.1 hb,RowAt.below h.2.1 hb,RowAt.below h.2.2 hb⟩
theorem Own2.below {B:Nat} {w w':World} {r:TrRow} (h:Own2 B w r) (hb:Below w.heap.size w w'):Own2 B w' r:=⟨RowAt.below h.1 hb,RowAt.below h.2 hb⟩
theorem Own3.apart {B:Nat} {w:World} {r:StRow} {g t:Nat} {cs:Array Value} (h:Own3 B w r) (hg:Blk w g t cs) (h1:3 ≠ t) (h2:104 ≠ t) (j:Nat) (u:Value):Own3 B (w.setCell ⟨g,j,none⟩ u) r:=⟨RowAt.apart h.1 hg h1 j u,RowAt.apart h.2.1 hg h2 j u,RowAt.apart h.2.2 hg h2 j u⟩
theorem Own2.apart {B:Nat} {w:World} {r:TrRow} {g t:Nat} {cs:Array Value} (h:Own2 B w r) (hg:Blk w g t cs) (h1:3 ≠ t) (h2:104 ≠ t) (j:Nat) (u:Value):Own2 B (w.setCell ⟨g,j,none⟩ u) r:=⟨RowAt.apart h.1 hg h1 j u,RowAt.apart h.2 hg h2 j u⟩
theorem OwnInts.of_own {B B':Nat} {w:World} {v:Value} {L:List Int} (h:w.ownsRow B' 3 1 v L.length (intVals L)) (hB:B≤B'):OwnInts B w v L:=RowAt.lower (RowAt.of_own (cells:=intCells) (n:=1) (fun _=>rfl) (by rw [ints_flat]; exact h)) hB
theorem OwnActs.of_own {B B':Nat} {w:World} {v:Value} {L:List Ac} (h:w.ownsRow B' 104 4 v L.length (L.flatMap actCells)) (hB:B≤B'):OwnActs B w v L:=(RowAt.of_own actCells_len h).lower hB
theorem OwnInts.list {B:Nat} {w:World} {v:Value} {L:List Int} (h:OwnInts B w v L):ListAt w v L:=by
 have:=RowAt.rows (val:=fun x:Int=>x) (P:=IntAt) h (fun r _ b o hc=>hc 0 _ rfl)
 rwa [List.map_id'] at this
theorem OwnActs.acts {B:Nat} {w:World} {v:Value} {L:List Ac} (h:OwnActs B w v L):ActsAt w v L:=by
 have:=RowAt.rows (val:=fun x:Ac=>x) (P:=AcAt) h (fun r _ b o hc=>⟨hc 0 _ rfl,hc 1 _ rfl,hc 2 _ rfl,hc 3 _ rfl⟩)
 rwa [List.map_id'] at this
def OwnSts (B:Nat) (w:World) (v:Value) (rs:List StRow):Prop:=RowAt B w 63 5 stateCells v rs∧∀ r ∈ rs,Own3 B w r
def OwnTrs (B:Nat) (w:World) (v:Value) (rs:List TrRow):Prop:=RowAt B w 66 6 transCells v rs∧∀ r ∈ rs,Own2 B w r
def OwnCh (B:Nat) (w:World) (vs vt:Value) (C:Ch):Prop:=∃ (rs:List StRow) (ts:List TrRow),rs.map (fun r=>r.1)=C.sts∧ts.map (fun r=>r.1)=C.trs∧OwnSts B w vs rs∧OwnTrs B w vt ts
theorem OwnSts.sts {B:Nat} {w:World} {v:Value} {rs:List StRow} (h:OwnSts B w v rs):StsAt w v (rs.map fun r=>r.1) :=
 RowAt.rows h.1 (fun r hr b o hc=>⟨r.2.1,r.2.2.1,r.2.2.2,⟨hc 0 _ rfl,hc 1 _ rfl,hc 2 _ rfl,hc 3 _ rfl,hc 4 _ rfl⟩,(h.2 r hr).1.list,(h.2 r hr).2.1.acts,(h.2 r hr).2.2.acts⟩)
theorem OwnTrs.trs {B:Nat} {w:World} {v:Value} {rs:List TrRow} (h:OwnTrs B w v rs):TrsAt w v (rs.map fun r=>r.1) :=
 RowAt.rows h.1 (fun r hr b o hc=>⟨r.2.1,r.2.2,⟨hc 0 _ rfl,hc 1 _ rfl,hc 2 _ rfl,hc 3 _ rfl,hc 4 _ rfl,hc 5 _ rfl⟩,(h.2 r hr).1.list,(h.2 r hr).2.acts⟩)
theorem OwnCh.has {B:Nat} {w:World} {vs vt:Value} {C:Ch} (h:OwnCh B w vs vt C):ChHas w vs vt C:=by
 obtain ⟨rs,ts,h1,h2,h3,h4⟩:=h
 exact ⟨h1 ▸ h3.sts,h2 ▸ h4.trs⟩
theorem OwnCh.below {B:Nat} {w w':World} {vs vt:Value} {C:Ch} (h:OwnCh B w vs vt C) (hb:Below w.heap.size w w'):OwnCh B w' vs vt C:=by
 obtain ⟨rs,ts,h1,h2,h3,h4⟩:=h
 exact ⟨rs,ts,h1,h2,⟨h3.1.below hb,fun r hr=>(h3.2 r hr).below hb⟩,h4.1.below hb,fun r hr=>(h4.2 r hr).below hb⟩
end Go.Proofs.YtmhkpjcdkjnlnaaGreatDoor
