/- Rows of choices in memory; the contracts of slices.IndexFunc and ContainsFunc over them, of hold's and isAmong's function values, of isAmong. -/
import Derived.Test.YtmhkpjcdkjnlnaaGreatDoorFUPkind
import Derived.Test.YtmhkpjcdkjnlnaaGreatDoorFUHrd
import Derived.Lib.SliceRun
import Derived.Test.YtmhkpjcdkjnlnaaGreatDoorFUHref
namespace Go.Proofs.YtmhkpjcdkjnlnaaGreatDoor
open Go.ChangeShapes Go.WideShapes Go.ChangeAt Go.RowKit
set_option linter.unusedVariables false

def chcCells (c:Chc):List Value:=[.int .i64 c.num,.int .i64 c.src,.int .u32 (c.left:Int)]
abbrev chcVal (c:Chc):Value:=.agg #[.int .i64 c.num,.int .i64 c.src,.int .u32 (c.left:Int)]
abbrev chcArr (c:Chc):Array Value:=#[.int .i64 c.num,.int .i64 c.src,.int .u32 (c.left:Int)]
def rowC (kept:List Chc):List Value:=kept.flatMap chcCells
def ChcAt (w:World) (b o:Nat) (c:Chc):Prop:=w.cell? ⟨b,o,none⟩=some (.int .i64 c.num)∧w.cell? ⟨b,o+1,none⟩=some (.int .i64 c.src)∧w.cell? ⟨b,o+2,none⟩=some (.int .u32 (c.left:Int))
theorem ChcAt.keeps:Keeps ChcAt:=fun w w' b o x hb hlt h=>⟨(hb.cell (p:=⟨b,_,none⟩) hlt).trans h.1,(hb.cell (p:=⟨b,_,none⟩) hlt).trans h.2.1,(hb.cell (p:=⟨b,_,none⟩) hlt).trans h.2.2⟩
def ChcsAt (w:World) (v:Value) (l:List Chc):Prop:=RowsAt 3 ChcAt w v l
theorem ChcsAt.below {w w':World} {v:Value} {l:List Chc} (h:ChcsAt w v l) (hb:Below w.heap.size w w'):ChcsAt w' v l:=RowsAt.below ChcAt.keeps h hb
theorem chcs_of_own {w:World} {B:Nat} {v:Value} {l:List Chc} (h:w.ownsRow B 163 3 v l.length (rowC l)):ChcsAt w v l:=by
 have:=RowAt.rows (val:=fun x:Chc=>x) (P:=ChcAt) (RowAt.of_own (cells:=chcCells) (n:=3) (fun _=>rfl) h) (fun r _ b o hc=>⟨hc 0 _ rfl,hc 1 _ rfl,hc 2 _ rfl⟩)
 rwa [List.map_id'] at this
def PredOk (F:Nat) (caps:Array Value) (p:Chc→Bool) (kept:List Chc) (w:World):Prop :=
 ∀ (W:World) (x:Chc),x ∈ kept→Below w.heap.size w W→Calls Tryz.prog F (#[chcVal x] ++ caps) W fun e w'=>e=.returned (.bool (p x))∧Below W.heap.size W w'
def IdxAns (p:Chc→Bool) (kept:List Chc) (r:Int):Prop :=
 (r=-1∧kept.any p=false) ∨ ∃ k:Nat,r=(k:Int)∧k < kept.length∧(∀ c,kept[k]?=some c→p c=true)∧∀ j c,j < k→kept[j]?=some c→p c=false
set_option maxHeartbeats 1000000 in
theorem indexC_any (F:Nat) (caps:Array Value) (p:Chc→Bool) (v:Value) (kept:List Chc) (w:World) (hE:Enters F) (hp:PredOk F caps p kept w) (hv:ChcsAt w v kept) (hl:kept.length≤1000) :
 Calls Tryz.prog 188 #[v,.func (.func F) #[] caps] w fun e w'=>Below w.heap.size w w'∧∃ r,e=.returned (.int .i64 r)∧IdxAns p kept r:=by
 have HP:=Lib.hid hp
 obtain ⟨A,cap,rfl,hcap,he⟩:=hv
 have HE:=Lib.hid he
 unfold Enters at hE
 clear hp he
 go_enter Tryz.func188,Tryz.ntmps188
 go_wp2_with fail
 go_loopw [8] (fun i wr=>∃ k:Nat,k≤kept.length∧i=.int .i64 (k:Int)∧Hid (∀ j c,j < k→kept[j]?=some c→p c=false)∧Below w.heap.size w wr) (fun i _=>kept.length - (intOf i).toNat)
 case atStart=>exact ⟨0,Nat.zero_le _,rfl,Lib.hid (fun j c hj=>absurd hj (Nat.not_lt_zero _)),Below.refl _ _⟩
 case round =>
  obtain ⟨k,hk,rfl,HK,hb⟩:=hrel
  obtain ⟨wo,rfl⟩:∃ wo:World,wo=wr:=⟨_,rfl⟩
  have HB:=Lib.hid hb
  by_cases hlt:k < kept.length
  · have hx:=List.getElem?_eq_getElem hlt
    obtain ⟨b,o,rfl,hbl,hc⟩:=HE.out k _ hx
    have hcall:=HP.out wo kept[k] (List.getElem_mem hlt) hb
    obtain ⟨c0,c1,c2⟩:=ChcAt.keeps w wo b _ _ hb hbl hc
    generalize kept[k]=x at *
    have HX:=Lib.hid hx
    have HCALL:=Lib.hid hcall
    obtain ⟨num,src,left⟩:=x
    simp only at c0 c1 c2
    clear hc hb hx hcall
    go_wp2_with fail
    refine HCALL.out.mono ?_
    rintro e w1 ⟨rfl,hb1⟩
    have HB1:=Lib.hid (HB.out.trans (hb1.mono HB.out.size))
    clear hb1
    cases hq:p ⟨num,src,left⟩ with
    | true =>
     have HQ:=Lib.hid hq
     clear hq
     go_wp2_with fail
     go_ret
     exact ⟨HB1.out,_,rfl,.inr ⟨k,rfl,hlt,fun c hc=>by rw [HX.out] at hc; injection hc with hc; subst hc; exact HQ.out,HK.out⟩⟩
    | false =>
     have HQ:=Lib.hid hq
     clear hq
     go_wp2_with fail
     go_roundw
     case rel=>exact ⟨k+1,by omega,by go_num,Lib.hid (fun j c hj hc=>by
      by_cases hjk:j=k
      · subst hjk; rw [HX.out] at hc; injection hc with hc; subst hc; exact HQ.out
      · exact HK.out j c (by omega) hc),HB1.out⟩
     case measure=>simp [intOf]; omega
  · obtain rfl:k=kept.length:=by omega
    go_wp2_with fail
    go_ret
    refine ⟨HB.out,_,rfl,.inl ⟨rfl,?_⟩⟩
    rw [List.any_eq_false]
    intro c hc
    obtain ⟨j,hj⟩:=List.getElem?_of_mem hc
    have:=HK.out j c (List.getElem?_eq_some_iff.1 hj).1 hj
    simp [this]
theorem containsC_any (F:Nat) (caps:Array Value) (p:Chc→Bool) (v:Value) (kept:List Chc) (w:World) (hE:Enters F) (hp:PredOk F caps p kept w) (hv:ChcsAt w v kept) (hl:kept.length≤1000) :
 Calls Tryz.prog 161 #[v,.func (.func F) #[] caps] w fun e w'=>e=.returned (.bool (kept.any p))∧Below w.heap.size w w':=by
 have HI:=Lib.hid (indexC_any F caps p v kept w hE hp hv hl)
 obtain ⟨A,cap,rfl,hcap,_⟩:=hv
 clear hp hE
 go_enter Tryz.func161,Tryz.ntmps161
 go_wp2_with fail
 refine HI.out.mono ?_
 rintro e w1 ⟨hb1,r,rfl,hr⟩
 have HB1:=Lib.hid hb1
 rcases hr with ⟨rfl,hr⟩ | ⟨k,rfl,hk,hc,_⟩
 · have HR:=Lib.hid hr
   clear hb1 hr
   go_wp2_with fail
   go_ret
   exact ⟨ret_bool HR.out.symm,HB1.out⟩
 · have HR:Hid (kept.any p=true):=Lib.hid (List.any_eq_true.2 ⟨kept[k],List.getElem_mem hk,hc _ (List.getElem?_eq_getElem hk)⟩)
   have hge:decide (0≤(k:Int))=true:=by simp
   clear hb1 hc
   go_wp2_with fail
   go_ret
   exact ⟨ret_bool HR.out.symm,HB1.out⟩
theorem enters51:Enters 162:=enters_of Tryz.func162 (by kernel_rfl) rfl
theorem enters52h:Enters 163:=enters_of Tryz.func163 (by kernel_rfl) rfl
theorem enters53:Enters 164:=enters_of Tryz.func164 (by kernel_rfl) rfl
theorem among_any (x:Chc) (i:Int) (h:Nat) (W:World) (hh:Blk W h 3 #[.int .i64 i]) :
 Calls Tryz.prog 162 #[chcVal x,.pointer (some ⟨h,0,none⟩)] W fun e w'=>e=.returned (.bool (decide (x.num=i)))∧Below W.heap.size W w':=by
 have c0:=(hh.alloc (.cells (chcArr x) 163)).cell 0
 simp at c0
 have HB:=Lib.hid (below_box W (.cells (chcArr x) 163))
 obtain ⟨num,src,left⟩:=x
 clear hh
 go_enter Tryz.func162,Tryz.ntmps162
 go_wp2_with fail
 go_ret
 exact ⟨ret_bool rfl,HB.out⟩
theorem clash_any (x one:Chc) (h:Nat) (W:World) (hh:Blk W h 163 (chcArr one)) (hx:x.left < 4294967296) (ho:one.left < 4294967296) :
 Calls Tryz.prog 163 #[chcVal x,.pointer (some ⟨h,0,none⟩)] W fun e w'=>e=.returned (.bool (clB x one))∧Below W.heap.size W w':=by
 obtain ⟨⟨c0,c1,c2⟩,-⟩:=(hh.alloc (.cells (chcArr x) 163)).facts3
 have HA:=Lib.hid (and_ne x.left one.left hx ho)
 have HB:=Lib.hid (below_box W (.cells (chcArr x) 163))
 have HR:Hid (clB x one=decide (x.left &&& one.left ≠ 0)):=Lib.hid rfl
 generalize clB x one=R at *
 obtain ⟨num,src,left⟩:=x
 obtain ⟨num',src',left'⟩:=one
 simp only at c0 c1 c2 HB HA HR
 clear hh
 go_enter Tryz.func163,Tryz.ntmps163
 go_wp2_with fail
 go_ret
 exact ⟨ret_bool (HA.out.trans HR.out.symm),HB.out⟩
set_option maxHeartbeats 1000000 in
theorem stays_any (g h hf ht:Nat) (x one:Chc) (C:Ch) (W:World) (hT:TreeAt W g C) (hl:C.sts.length≤1000) (hR:Rooted C.sts) (hh:Blk W h 163 (chcArr one)) (hhf:Blk W hf 186 #[.func (.func 163) #[] #[.pointer (some ⟨h,0,none⟩)]]) (hht:Blk W ht 28 #[.pointer (some ⟨g,0,none⟩)])
 (hx:x.left < 4294967296) (ho:one.left < 4294967296) :
 Calls Tryz.prog 164 #[chcVal x,.pointer (some ⟨hf,0,none⟩),.pointer (some ⟨ht,0,none⟩),.pointer (some ⟨h,0,none⟩)] W fun e w'=>e=.returned (.bool (stayB C.sts one x))∧Below W.heap.size W w':=by
 have f0:=(hhf.alloc (.cells (chcArr x) 163)).cell 0
 simp at f0
 have eg:=enters52h
 unfold Enters at eg
 have HC:=Lib.hid (clash_any x one h _ (hh.alloc (.cells (chcArr x) 163)) hx ho)
 have HB:=Lib.hid (below_box W (.cells (chcArr x) 163))
 have HX:=Lib.hid (Blk.new W 163 (chcArr x))
 have HH:=Lib.hid (hh.alloc (.cells (chcArr x) 163))
 have HHT:=Lib.hid (hht.alloc (.cells (chcArr x) 163))
 have HIN:=Lib.hid (fun (W':World) (hb:Below W.heap.size W W') (a b:Int)=>inT_any g a b C W' (hT.below hb) hl hR)
 have HS:Hid (stayB C.sts one x=(clB x one && !cIn C.sts one.src x.src)):=Lib.hid rfl
 generalize stayB C.sts one x=R at *
 generalize clB x one=cl at *
 obtain ⟨num,src,left⟩:=x
 obtain ⟨num',src',left'⟩:=one
 simp only at f0 HB HC HX HH HHT HS
 clear hT hR hh hhf hht
 cases cl with
 | false =>
  go_enter Tryz.func164,Tryz.ntmps164
  go_wp2_with fail
  refine HC.out.mono ?_
  rintro e w1 ⟨rfl,hb1⟩
  have HB1:=Lib.hid (HB.out.trans (hb1.mono HB.out.size))
  clear hb1
  go_wp2_with fail
  go_ret
  exact ⟨ret_bool (by rw [HS.out]; rfl),HB1.out⟩
 | true =>
  go_enter Tryz.func164,Tryz.ntmps164
  go_wp2_with fail
  refine HC.out.mono ?_
  rintro e w1 ⟨rfl,hb1⟩
  have HB1:=Lib.hid (HB.out.trans (hb1.mono HB.out.size))
  obtain ⟨⟨x0,x1,x2⟩,-⟩:=(HX.out.below hb1 HX.out.lt).facts3
  obtain ⟨⟨y0,y1,y2⟩,-⟩:=(HH.out.below hb1 HH.out.lt).facts3
  have z0:=(HHT.out.below hb1 HHT.out.lt).cell 0
  simp at z0
  clear hb1
  go_wp2_with fail
  refine (HIN.out _ HB1.out _ _).mono ?_
  rintro e w2 ⟨rfl,rfl⟩
  go_wp2_with fail
  go_ret
  exact ⟨ret_bool (by rw [HS.out]; rfl),HB1.out⟩
set_option maxHeartbeats 1000000 in
theorem isAmong_any (v:Value) (kept:List Chc) (i:Int) (w:World) (hv:ChcsAt w v kept) (hl:kept.length≤1000) :
 Calls Tryz.prog 127 #[v,.int .i64 i] w fun e w'=>e=.returned (.bool (keptB kept i))∧Below w.heap.size w w':=by
 have HB:=Lib.hid (below_box w (.cells #[.int .i64 i] 3))
 have HX:=Lib.hid (Blk.new w 3 #[.int .i64 i])
 have HC:=Lib.hid (containsC_any 162 #[.pointer (some ⟨w.heap.size,0,none⟩)] (fun k=>decide (k.num=i)) v kept _ enters51 (fun W x _ hb=>among_any x i w.heap.size W (HX.out.below hb HX.out.lt)) (hv.below HB.out) hl)
 clear hv
 go_enter Tryz.func127,Tryz.ntmps127
 go_wp2_with fail
 refine HC.out.mono ?_
 rintro e w1 ⟨rfl,hb1⟩
 have HB1:=Lib.hid (HB.out.trans (hb1.mono HB.out.size))
 clear hb1
 go_wp2_with fail
 go_ret
 exact ⟨rfl,HB1.out⟩

theorem grown_trans {a b c:World} {row:Option Nat} (h:a.grownBy b row) (k:b.grownBy c row):a.grownBy c row :=
 ⟨k.os.trans h.os,k.tape.trans h.tape,k.output.trans h.output,Nat.le_trans h.size k.size,fun i hi hne=>(k.block i (Nat.lt_of_lt_of_le hi h.size) hne).trans (h.block i hi hne)⟩
theorem grown_set (w:World) (g j:Nat) (u:Value):w.grownBy (w.setCell ⟨g,j,none⟩ u) (some g) :=
 ⟨rfl,rfl,rfl,by simp,fun i hi hne=>Below.heap_setCell w ⟨g,j,none⟩ u i (fun h=>hne (by rw [h]))⟩
theorem Blk.kept {w w':World} {g:Nat} {t:TypeId} {cs:Array Value} {row:Option Nat} (h:Blk w g t cs) (hg:w.grownBy w' row) (hne:some g ≠ row):Blk w' g t cs:=(hg.block g h.lt hne).trans h
theorem setCells_blk {g:Nat} {t:TypeId}:∀ (vs:List Value) (o:Nat) (w:World) (cur:Array Value),Blk w g t cur →
 ∃ cur',Blk (w.setCells g o vs) g t cur'∧cur'.size=cur.size∧(∀ q,q < o→cur'[q]?=cur[q]?)∧w.grownBy (w.setCells g o vs) (some g)
 | [],o,w,cur,h=>⟨cur,h,rfl,fun _ _=>rfl,World.grownBy.refl _ _⟩
 | v :: r,o,w,cur,h=>by
  obtain ⟨cur',h1,h2,h3,h4⟩:=setCells_blk r (o+1) (w.setCell ⟨g,o,none⟩ v) _ (h.set_ o v)
  refine ⟨cur',h1,by rw [h2]; simp,fun q hq=>?_,grown_trans (grown_set w g o v) h4⟩
  rw [h3 q (by omega),Array.getElem?_setIfInBounds_ne (by omega)]
theorem run_clear_rows {P:Program} (w:World) (t e ty:TypeId) (z:Value) (s:Nat) (ht:P.underlying t=some (.slice e)) (hv:∀ w,(zeroValue e).run P w=.ok z w) (hz:z.cells.size=s) (hs:0 < s) (h1:∀ v ∈ z.cells.toList,v.oneCell'=true) (b o n c:Nat) (hn:0 < n)
 (hc:∀ j,j < n * s→(w.cell? ⟨b,o+j,none⟩).isSome=true) (hf:∀ j,j < n * s→w.frozen? ⟨b,o+j,none⟩=false) :
 (Builtin.clear_ #[t] ty #[.slice (some ⟨b,o,none⟩) n c]).run P w=.ok (.tuple #[]) (w.setCells b o (Builtin.zeroCells z.cells n).toList):=by
 have hlen:(Builtin.zeroCells z.cells n).toList.length=n * s:=by simp [Builtin.zeroCells,hz]
 have hmem:∀ v ∈ (Builtin.zeroCells z.cells n).toList,v.oneCell'=true:=by
  intro v hv'
  simp only [Builtin.zeroCells,Array.toList_map,List.mem_map] at hv'
  obtain ⟨i,_,rfl⟩:=hv'
  refine h1 _ ?_
  have hlt:i % z.cells.size < z.cells.size:=Nat.mod_lt _ (by omega)
  rw [getElem!_pos z.cells _ hlt]
  exact Array.getElem_mem_toList hlt
 have hst:=run_storeCells_cells (P:=P) b o (Builtin.zeroCells z.cells n).toList 0 w (by rw [hlen]; simpa using hc) (by rw [hlen]; simpa using hf) hmem
 simp only [Nat.add_zero] at hst
 obtain ⟨m,rfl⟩:∃ m,n=m+1:=⟨n - 1,by omega⟩
 simp [Builtin.clear_,run_underlying ht,hv,hst]
def CellsC (cur:Array Value) (q:Nat) (c:Chc):Prop:=cur[q * 3]?=some (.int .i64 c.num)∧cur[q * 3+1]?=some (.int .i64 c.src)∧cur[q * 3+2]?=some (.int .u32 (c.left:Int))
structure DSt (kept:List Chc) (p:Chc→Bool) (cap:Nat) (cur:Array Value) (i j:Nat):Prop where
 size:cur.size=cap * 3
 lt:i < j
 len:((kept.take j).filter fun c=>!p c).length=i
 front:∀ q c,((kept.take j).filter fun c=>!p c)[q]?=some c→CellsC cur q c
 back:∀ q c,j≤q→kept[q]?=some c→CellsC cur q c
theorem filter_all_take {kept:List Chc} {p:Chc→Bool} {k:Nat} (h:∀ j c,j < k→kept[j]?=some c→p c=false):((kept.take k).filter fun c=>!p c)=kept.take k:=by
 refine List.filter_eq_self.2 fun c hc=>?_
 obtain ⟨j,hj⟩:=List.getElem?_of_mem hc
 have hlt:=(List.getElem?_eq_some_iff.1 hj).1
 rw [List.length_take] at hlt
 rw [List.getElem?_take] at hj
 rw [if_pos (by omega)] at hj
 simp [h j c (by omega) hj]
theorem take_succ_filter {kept:List Chc} {p:Chc→Bool} {j:Nat} {c:Chc} (hj:kept[j]?=some c):((kept.take (j+1)).filter fun c=>!p c)=((kept.take j).filter fun c=>!p c) ++ if p c=true then [] else [c]:=by
 rw [List.take_add_one,hj,List.filter_append]
 cases h:p c <;> simp [h]
theorem DSt.start {kept:List Chc} {p:Chc→Bool} {cap:Nat} {cur:Array Value} {k:Nat} {x:Chc} (hs:cur.size=cap * 3) (hc:∀ q c,kept[q]?=some c→CellsC cur q c) (hx:kept[k]?=some x) (hp:p x=true) (h:∀ j c,j < k→kept[j]?=some c→p c=false):DSt kept p cap cur k (k+1):=by
 have hlt:=(List.getElem?_eq_some_iff.1 hx).1
 have hf:((kept.take (k+1)).filter fun c=>!p c)=kept.take k:=by rw [take_succ_filter hx,filter_all_take h,if_pos hp,List.append_nil]
 refine ⟨hs,by omega,by rw [hf,List.length_take]; omega,fun q c hq=>?_,fun q c _ hq=>hc q c hq⟩
 rw [hf,List.getElem?_take] at hq
 split at hq
 · exact hc q c hq
 · cases hq
theorem DSt.skip {kept:List Chc} {p:Chc→Bool} {cap i j:Nat} {cur:Array Value} {x:Chc} (h:DSt kept p cap cur i j) (hx:kept[j]?=some x) (hp:p x=true):DSt kept p cap cur i (j+1):=by
 have hf:((kept.take (j+1)).filter fun c=>!p c)=((kept.take j).filter fun c=>!p c):=by rw [take_succ_filter hx,if_pos hp,List.append_nil]
 exact ⟨h.size,by have:=h.lt; omega,by rw [hf]; exact h.len,fun q c hq=>h.front q c (by rwa [hf] at hq),fun q c hle hq=>h.back q c (by omega) hq⟩
abbrev put3 (cur:Array Value) (i:Nat) (x:Chc):Array Value:=((cur.setIfInBounds (i * 3) (.int .i64 x.num)).setIfInBounds (i * 3+1) (.int .i64 x.src)).setIfInBounds (i * 3+2) (.int .u32 (x.left:Int))
theorem put3_other {cur:Array Value} {i q:Nat} {x c:Chc} (h:CellsC cur q c) (hne:q ≠ i):CellsC (put3 cur i x) q c:=by
 obtain ⟨h0,h1,h2⟩:=h
 refine ⟨?_,?_,?_⟩
 all_goals rw [Array.getElem?_setIfInBounds_ne (by omega),Array.getElem?_setIfInBounds_ne (by omega),Array.getElem?_setIfInBounds_ne (by omega)]; assumption
theorem put3_here {cur:Array Value} {i:Nat} {x:Chc} (h:i * 3+2 < cur.size):CellsC (put3 cur i x) i x:=by
 refine ⟨?_,?_,?_⟩
 · rw [Array.getElem?_setIfInBounds_ne (by omega),Array.getElem?_setIfInBounds_ne (by omega),Array.getElem?_setIfInBounds_self_of_lt (by omega)]
 · rw [Array.getElem?_setIfInBounds_ne (by omega),Array.getElem?_setIfInBounds_self_of_lt (by simp; omega)]
 · rw [Array.getElem?_setIfInBounds_self_of_lt (by simp; omega)]
theorem DSt.keep {kept:List Chc} {p:Chc→Bool} {cap i j:Nat} {cur:Array Value} {x:Chc} (h:DSt kept p cap cur i j) (hx:kept[j]?=some x) (hp:p x=false) (hc:kept.length≤cap):DSt kept p cap (put3 cur i x) (i+1) (j+1):=by
 have hlt:=(List.getElem?_eq_some_iff.1 hx).1
 have hij:=h.lt
 have hf:((kept.take (j+1)).filter fun c=>!p c)=((kept.take j).filter fun c=>!p c) ++ [x]:=by rw [take_succ_filter hx,if_neg (by rw [hp]; simp)]
 refine ⟨by simp [h.size],by omega,by rw [hf,List.length_append,h.len]; rfl,fun q c hq=>?_,fun q c hle hq=>put3_other (h.back q c (by omega) hq) (by omega)⟩
 rw [hf] at hq
 by_cases hqi:q < i
 · rw [List.getElem?_append_left (by rw [h.len]; exact hqi)] at hq
   exact put3_other (h.front q c hq) (by omega)
 · have hql:=(List.getElem?_eq_some_iff.1 hq).1
   rw [List.length_append,h.len] at hql
   simp at hql
   obtain rfl:q=i:=by omega
   rw [List.getElem?_append_right (by rw [h.len]; omega),h.len,Nat.sub_self] at hq
   simp at hq
   subst hq
   exact put3_here (by rw [h.size]; omega)
theorem own_of_cells {w:World} {B g cap:Nat} {cur:Array Value} {K:List Chc} (hB:B≤g) (hg:Blk w g 163 cur) (hK:K.length≤cap) (hcap:cap≤maxLen) (hs:cur.size=cap * 3) (hc:∀ q c,K[q]?=some c→CellsC cur q c) :
 w.ownsRow B 163 3 (.slice (some ⟨g,0,none⟩) K.length cap) K.length (rowC K):=by
 have hl:(rowC K).length=K.length * 3:=flatMap_len (cells:=chcCells) (n:=3) (fun _=>rfl) K
 refine ⟨hl,.inr ⟨g,cap,cur,rfl,hB,hg,hK,hcap,hs,?_⟩⟩
 apply List.ext_getElem?
 intro t
 rw [List.getElem?_take]
 by_cases ht:t < K.length * 3
 · rw [if_pos ht]
   have hu:=List.getElem?_eq_getElem (show t < (rowC K).length by omega)
   obtain ⟨q,j,c,rfl,hq,hj⟩:=cells_inv (cells:=chcCells) (n:=3) (fun _=>rfl) K t _ hu
   obtain ⟨c0,c1,c2⟩:=hc q c hq
   have hall:∀ m,m < 3→cur[q * 3+m]?=(chcCells c)[m]?:=fun m hm=>by
    match m,hm with
    | 0,_=>exact c0
    | 1,_=>exact c1
    | 2,_=>exact c2
   have:=hall j (List.getElem?_eq_some_iff.1 hj).1
   rw [hu,← hj,← this]
   simp
 · rw [if_neg ht,List.getElem?_eq_none (by omega)]
theorem cells_of_own {w:World} {B g n cap:Nat} {K:List Chc} (h:w.ownsRow B 163 3 (.slice (some ⟨g,0,none⟩) n cap) K.length (rowC K)) :
 ∃ cur,B≤g∧n=K.length∧Blk w g 163 cur∧K.length≤cap∧cap≤maxLen∧cur.size=cap * 3∧∀ q c,K[q]?=some c→CellsC cur q c:=by
 rcases h.2 with ⟨h0,_⟩ | ⟨g',cap',cur,h1,hB,hg,hc,hm,hs,ht⟩
 · cases h0
 · injection h1 with e1 e2 e3
   injection e1 with e1
   injection e1 with e4
   subst e4; subst e3
   have hcell:∀ q c j u,K[q]?=some c→(chcCells c)[j]?=some u→cur[q * 3+j]?=some u:=fun q c j u hq hu=>by
    have hj:=(List.getElem?_eq_some_iff.1 hu).1
    have hj3:j < 3:=hj
    have hql:=(List.getElem?_eq_some_iff.1 hq).1
    have:=cells_flat (cells:=chcCells) (n:=3) (fun _=>rfl) K q c j u hq hu
    rw [show K.flatMap chcCells=rowC K from rfl,← ht,List.getElem?_take,if_pos (by omega)] at this
    rw [← this]
    simp
   exact ⟨cur,hB,e2,hg,hc,hm,hs,fun q c hq=>⟨hcell q c 0 _ hq rfl,hcell q c 1 _ hq rfl,hcell q c 2 _ hq rfl⟩⟩
theorem zero77 (w:World):(zeroValue 163).run Tryz.prog w=.ok (.agg #[.int .i64 0,.int .i64 0,.int .u32 0]) w:=by kernel_rfl
set_option maxHeartbeats 4000000 in
set_option maxRecDepth 100000 in
theorem delete_any (g cap h B:Nat) (kept:List Chc) (one:Chc) (w:World) (hr:w.ownsRow B 163 3 (.slice (some ⟨g,0,none⟩) kept.length cap) kept.length (rowC kept)) (hh:Blk w h 163 (chcArr one)) (hne:h ≠ g) (hl:kept.length≤1000)
 (hlf:∀ c ∈ kept,c.left < 4294967296) (ho:one.left < 4294967296) :
 Calls Tryz.prog 165 #[.slice (some ⟨g,0,none⟩) kept.length cap,.func (.func 163) #[] #[.pointer (some ⟨h,0,none⟩)]] w fun e w'=>w.grownBy w' (some g)∧e=.returned (.slice (some ⟨g,0,none⟩) (kept.filter fun c=>!clB c one).length cap) ∧
  w'.ownsRow B 163 3 (.slice (some ⟨g,0,none⟩) (kept.filter fun c=>!clB c one).length cap) (kept.filter fun c=>!clB c one).length (rowC (kept.filter fun c=>!clB c one)):=by
 obtain ⟨cur,hB,_,hg,hcap,hmax,hs,hc⟩:=cells_of_own hr
 have HCL:=Lib.hid (fun (W:World) (x:Chc) (hx:x ∈ kept) (hW:Blk W h 163 (chcArr one))=>clash_any x one h W hW (hlf x hx) ho)
 have HI:=Lib.hid (indexC_any 163 #[.pointer (some ⟨h,0,none⟩)] (fun c=>clB c one) _ kept w enters52h (fun W x hx hb=>clash_any x one h W (hh.below hb hh.lt) (hlf x hx) ho) (chcs_of_own hr) hl)
 have eg:=enters52h
 unfold Enters at eg
 obtain ⟨p,hp⟩:∃ p:Chc→Bool,p=fun c=>clB c one:=⟨_,rfl⟩
 have HP:Hid (∀ c,clB c one=p c):=Lib.hid fun c=>by rw [hp]
 have hK:(kept.filter fun c=>!clB c one)=kept.filter fun c=>!p c:=by rw [hp]
 rw [hK]
 rw [← hp] at HI
 have HR:=Lib.hid hr
 have HH:=Lib.hid hh
 have HG:=Lib.hid hg
 have HC:=Lib.hid hc
 have HS:=Lib.hid hs
 clear hr hh hg hc hs hlf hK hp
 go_enter Tryz.func165,Tryz.ntmps165
 go_wp2_with fail
 refine HI.out.mono ?_
 rintro e w1 ⟨hb1,r,rfl,hr⟩
 have HGR1:=Lib.hid (only_of_below hb1 (some g))
 have HB1:=Lib.hid hb1
 clear hb1
 rcases hr with ⟨rfl,hr⟩ | ⟨k,rfl,hk,hx,hb⟩
 · have HKF:Hid ((kept.filter fun c=>!p c)=kept):=Lib.hid (List.filter_eq_self.2 fun c hc=>by
    rw [List.any_eq_false] at hr
    simpa using hr c hc)
   clear hr
   go_wp2_with fail
   go_ret
   rw [HKF.out]
   exact ⟨HGR1.out,rfl,own_below HR.out HB1.out⟩
 · have hkb:((k:Int) == -1)=false:=beq_false_of_ne (by omega)
   have HD:=Lib.hid (DSt.start (p:=p) HS.out HC.out (List.getElem?_eq_getElem hk) (hx _ (List.getElem?_eq_getElem hk)) hb)
   have HG1:=Lib.hid (HG.out.below HB1.out HG.out.lt)
   have HH1:=Lib.hid (HH.out.below HB1.out HH.out.lt)
   clear hx hb
   go_wp2_with fail
   go_loopw [5,6] (fun iv jv wr=>∃ (i j:Nat) (cur:Array Value),j≤kept.length∧i < j∧iv=.int .i64 (i:Int)∧jv=.int .i64 (j:Int)∧Hid (DSt kept p cap cur i j)∧Hid (Blk wr g 163 cur)∧Hid (w.grownBy wr (some g))∧Hid (Blk wr h 163 (chcArr one))) (fun _ jv _=>kept.length - (intOf jv).toNat)
   case atStart=>exact ⟨k,k+1,cur,by omega,by omega,rfl,by go_num,HD,HG1,HGR1,HH1⟩
   case round =>
    clear HD HG1 HH1 HGR1 HG HH HS HC HI hkb
    obtain ⟨i,j,cur,hj,hij,rfl,rfl,HD,HG,HGR,HH⟩:=hrel
    obtain ⟨wo,rfl⟩:∃ wo:World,wo=wr:=⟨_,rfl⟩
    by_cases hlt:j < kept.length
    · have hx:=List.getElem?_eq_getElem hlt
      obtain ⟨e0,e1,e2⟩:=HD.out.back j _ (Nat.le_refl _) hx
      have d0:=(HG.out.cell (j * 3)).trans e0
      have d1:=(HG.out.cell (j * 3+1)).trans e1
      have d2:=(HG.out.cell (j * 3+2)).trans e2
      have hcall:=HCL.out (wo.alloc (.cells (chcArr kept[j]) 163)) kept[j] (List.getElem_mem hlt) (HH.out.alloc _)
      rw [HP.out] at hcall
      generalize kept[j]=x at *
      have HX:=Lib.hid hx
      have HCALL:=Lib.hid hcall
      have HXB:=Lib.hid (Blk.new wo 163 (chcArr x))
      have HGA:=Lib.hid (HG.out.alloc (.cells (chcArr x) 163))
      have HHA:=Lib.hid (HH.out.alloc (.cells (chcArr x) 163))
      have HGRA:=Lib.hid (grown_trans HGR.out (World.grownBy_alloc wo (.cells (chcArr x) 163) (some g)))
      cases hq:p x with
      | true =>
       have HD2:=Lib.hid (HD.out.skip hx hq)
       rw [hq] at HCALL
       obtain ⟨num,src,left⟩:=x
       simp only at d0 d1 d2 HCALL HXB HGA HHA HGRA
       clear hx hcall hq e0 e1 e2
       go_wp2_with fail
       refine HCALL.out.mono ?_
       rintro e w2 ⟨rfl,hb2⟩
       have HG2:=Lib.hid (HGA.out.below hb2 HGA.out.lt)
       have HH2:=Lib.hid (HHA.out.below hb2 HHA.out.lt)
       have HGR2:=Lib.hid (grown_trans HGRA.out (only_of_below hb2 (some g)))
       clear hb2
       go_wp2_with fail
       go_roundw
       case rel=>exact ⟨i,j+1,cur,by omega,by omega,rfl,by go_num,HD2,HG2,HGR2,HH2⟩
       case measure=>simp [intOf]; omega
      | false =>
       have HD2:=Lib.hid (HD.out.keep hx hq hcap)
       have hcs:=HD.out.size
       rw [hq] at HCALL
       obtain ⟨num,src,left⟩:=x
       simp only at d0 d1 d2 HCALL HXB HGA HHA HGRA
       clear hx hcall hq e0 e1 e2
       go_wp2_with fail
       refine HCALL.out.mono ?_
       rintro e w2 ⟨rfl,hb2⟩
       obtain ⟨⟨x0,x1,x2⟩,-⟩:=(HXB.out.below hb2 HXB.out.lt).facts3
       have HG2:=Lib.hid (HGA.out.below hb2 HGA.out.lt)
       have HH2:=Lib.hid (HHA.out.below hb2 HHA.out.lt)
       have HGR2:=Lib.hid (grown_trans HGRA.out (only_of_below hb2 (some g)))
       have HGS:=Lib.hid (((HG2.out.set_ (i * 3) (.int .i64 num)).set_ (i * 3+1) (.int .i64 src)).set_ (i * 3+2) (.int .u32 (left:Int)))
       have HHS:=Lib.hid (((HH2.out.kept (grown_set w2 g (i * 3) (.int .i64 num)) (fun h=>hne (Option.some.inj h))).kept (grown_set _ g (i * 3+1) (.int .i64 src)) (fun h=>hne (Option.some.inj h))).kept (grown_set _ g (i * 3+2) (.int .u32 (left:Int))) (fun h=>hne (Option.some.inj h)))
       have HGRS:=Lib.hid (grown_trans (grown_trans (grown_trans HGR2.out (grown_set w2 g (i * 3) (.int .i64 num))) (grown_set _ g (i * 3+1) (.int .i64 src))) (grown_set _ g (i * 3+2) (.int .u32 (left:Int))))
       have o0:=(HG2.out.cell (i * 3)).trans (Array.getElem?_eq_getElem (show i * 3 < cur.size by omega))
       have o1:=(HG2.out.cell (i * 3+1)).trans (Array.getElem?_eq_getElem (show i * 3+1 < cur.size by omega))
       have o2:=(HG2.out.cell (i * 3+2)).trans (Array.getElem?_eq_getElem (show i * 3+2 < cur.size by omega))
       have z0:=HG2.out.frozen (i * 3)
       have z1:=HG2.out.frozen (i * 3+1)
       have z2:=HG2.out.frozen (i * 3+2)
       generalize cur[i * 3]'(by omega)=v0 at o0
       generalize cur[i * 3+1]'(by omega)=v1 at o1
       generalize cur[i * 3+2]'(by omega)=v2 at o2
       clear hb2 d0 d1 d2 hcs
       go_wp2_with fail
       go_roundw
       case rel=>exact ⟨i+1,j+1,_,by omega,by omega,by go_num,by go_num,HD2,HGS,HGRS,HHS⟩
       case measure=>simp [intOf]; omega
    · obtain rfl:j=kept.length:=by omega
      have hcs:=HD.out.size
      have hlen:=HD.out.len
      rw [List.take_length] at hlen
      have HFR:Hid (∀ q c,(kept.filter fun c=>!p c)[q]?=some c→CellsC cur q c):=Lib.hid fun q c hq=>HD.out.front q c (by rw [List.take_length]; exact hq)
      have hcl:∀ ty,(Builtin.clear_ #[157] ty #[.slice (some ⟨g,i * 3,none⟩) (kept.length - i) (cap - i)]).run Tryz.prog wo=.ok (.tuple #[]) (wo.setCells g (i * 3) (Builtin.zeroCells (Value.agg #[.int .i64 0,.int .i64 0,.int .u32 0]).cells (kept.length - i)).toList) :=
       fun ty=>run_clear_rows wo 157 163 ty _ 3 Tryz.underlying157 zero77 rfl (by decide) (fun v hv=>by simp [Value.cells] at hv; rcases hv with rfl | rfl | rfl <;> rfl) g (i * 3) _ _ (by omega)
        (fun q hq=>by rw [HG.out.cell,Array.getElem?_eq_getElem (show i * 3+q < cur.size by omega)]; rfl) (fun q hq=>HG.out.frozen _)
      obtain ⟨cur',h1,h2,h3,h4⟩:=setCells_blk (Builtin.zeroCells (Value.agg #[.int .i64 0,.int .i64 0,.int .u32 0]).cells (kept.length - i)).toList (i * 3) wo cur HG.out
      have HF:=Lib.hid (own_of_cells (K:=kept.filter fun c=>!p c) hB h1 (by omega) hmax (by rw [h2,hcs]) (fun q c hq=>by
       have hql:=(List.getElem?_eq_some_iff.1 hq).1
       obtain ⟨e0,e1,e2⟩:=HFR.out q c hq
       exact ⟨(h3 _ (by omega)).trans e0,(h3 _ (by omega)).trans e1,(h3 _ (by omega)).trans e2⟩))
      have HGF:=Lib.hid (grown_trans HGR.out h4)
      generalize wo.setCells g (i * 3) (Builtin.zeroCells (Value.agg #[.int .i64 0,.int .i64 0,.int .u32 0]).cells (kept.length - i)).toList=wz at *
      have HLEN:=Lib.hid hlen
      clear h1 h2 h3 h4 hcs hlen
      go_wp2_with fail
      go_ret
      exact ⟨HGF.out,by rw [HLEN.out] <;> rfl,HF.out⟩

theorem Tryz.info77h:(Tryz.prog.info? 163).map (fun i=>(i.zero,i.size,i.bytes))=some (some (.agg #[.int .i64 0,.int .i64 0,.int .u32 0]),3,24):=by kernel_rfl
theorem run_store_fn (F:Fn) (caps:Array Value) (a:Addr) (m:Mode) (W:World):(store a (.func F #[] caps) m).run Tryz.prog W=stored Tryz.prog W a (.func F #[] caps) m:=run_store Tryz.prog W a _ m rfl
theorem rowC_snoc (K:List Chc) (x:Chc):rowC (K ++ [x])=rowC K ++ chcCells x:=by simp [rowC]
theorem chc_one (x:Chc):∀ u ∈ chcCells x,u.oneCell'=true:=by
 intro u hu
 simp only [chcCells,List.mem_cons,List.mem_nil_iff,or_false] at hu
 rcases hu with rfl | rfl | rfl <;> rfl
theorem chc_at {w:World} {g:Nat} {x:Chc} (h:Blk w g 163 (chcArr x)):∀ j u,(chcCells x)[j]?=some u→w.cell? ((⟨g,0,none⟩:Addr).add j)=some u:=by
 intro j u hj
 rw [flat_add,Nat.zero_add,h.cell,← hj]
 match j with
 | 0=>rfl
 | 1=>rfl
 | 2=>rfl
 | j+3=>simp [chcCells]
theorem deleteRow_any (v:Value) (h B:Nat) (kept:List Chc) (one:Chc) (w:World) (hr:w.ownsRow B 163 3 v kept.length (rowC kept)) (hh:Blk w h 163 (chcArr one)) (hne:∀ g,v.ownBlock=some g→h ≠ g) (hl:kept.length≤1000)
 (hlf:∀ c ∈ kept,c.left < 4294967296) (ho:one.left < 4294967296) :
 Calls Tryz.prog 165 #[v,.func (.func 163) #[] #[.pointer (some ⟨h,0,none⟩)]] w fun e w'=>w.grownBy w' v.ownBlock∧∃ v',e=.returned v'∧v'.ownBlock=v.ownBlock ∧
  w'.ownsRow B 163 3 v' (kept.filter fun c=>!clB c one).length (rowC (kept.filter fun c=>!clB c one)):=by
 rcases hr.2 with ⟨rfl,hn⟩ | ⟨g,cap,cur,rfl,_⟩
 · obtain rfl:kept=[]:=List.eq_nil_of_length_eq_zero hn
   have HI:=Lib.hid (indexC_any 163 #[.pointer (some ⟨h,0,none⟩)] (fun c=>clB c one) (.slice none 0 0) [] w enters52h (fun W x hx hb=>by cases hx) (chcs_of_own hr) (by simp))
   clear hr hh hne hl hlf hn
   go_enter Tryz.func165,Tryz.ntmps165
   go_wp2_with fail
   refine HI.out.mono ?_
   rintro e w1 ⟨hb1,r,rfl,hr⟩
   have HB1:=Lib.hid hb1
   clear hb1
   rcases hr with ⟨rfl,hr⟩ | ⟨k,rfl,hk,_⟩
   · clear hr
     go_wp2_with fail
     go_ret
     exact ⟨only_of_below HB1.out _,_,rfl,rfl,World.ownsRow_nil _ _ _ _⟩
   · simp at hk
 · refine (delete_any g cap h B kept one w hr hh (hne g rfl) hl hlf ho).mono ?_
   rintro e w' ⟨h1,rfl,h2⟩
   exact ⟨h1,_,rfl,rfl,h2⟩
set_option maxHeartbeats 8000000 in
set_option maxRecDepth 100000 in
theorem hold_any (g B:Nat) (v:Value) (kept:List Chc) (one:Chc) (C:Ch) (w:World) (hT:TreeAt w g C) (hl:C.sts.length≤1000) (hR:Rooted C.sts) (hr:w.ownsRow B 163 3 v kept.length (rowC kept)) (hB:B≤w.heap.size) (hk:kept.length≤900)
 (hlf:∀ c ∈ kept,c.left < 4294967296) (ho:one.left < 4294967296) :
 Calls Tryz.prog 128 #[.pointer (some ⟨g,0,none⟩),v,chcVal one] w fun e w'=>w.grownBy w' v.ownBlock∧∃ v',e=.returned v'∧w'.ownsRow B 163 3 v' (holdL C.sts kept one).length (rowC (holdL C.sts kept one)):=by
 obtain ⟨i0,hi,hz0,hz1,hz2⟩:=info_parts Tryz.info77h
 have HI:=Lib.hid hi
 have HZ0:=Lib.hid hz0
 have HZ1:=Lib.hid hz1
 have HZ2:=Lib.hid hz2
 have hb0:Below w.heap.size w (((w.alloc (.cells #[.pointer (some ⟨g,0,none⟩)] 28)).alloc (.cells (chcArr one) 163)).alloc (.cells #[.func (.func 163) #[] #[.pointer (some ⟨w.heap.size+1,0,none⟩)]] 186)):=(((Below.refl w.heap.size w).alloc (Nat.le_refl _) _).alloc (by simp) _).alloc (by simp; omega) _
 have HB0:=Lib.hid hb0
 have bt:Blk (((w.alloc (.cells #[.pointer (some ⟨g,0,none⟩)] 28)).alloc (.cells (chcArr one) 163)).alloc (.cells #[.func (.func 163) #[] #[.pointer (some ⟨w.heap.size+1,0,none⟩)]] 186)) w.heap.size 28 #[.pointer (some ⟨g,0,none⟩)]:=((Blk.new w 28 #[.pointer (some ⟨g,0,none⟩)]).alloc _).alloc _
 have b1:Blk (((w.alloc (.cells #[.pointer (some ⟨g,0,none⟩)] 28)).alloc (.cells (chcArr one) 163)).alloc (.cells #[.func (.func 163) #[] #[.pointer (some ⟨w.heap.size+1,0,none⟩)]] 186)) (w.heap.size+1) 163 (chcArr one):=(Blk.new_at (w.alloc (.cells #[.pointer (some ⟨g,0,none⟩)] 28)) 163 (chcArr one) (w.heap.size+1) (by simp)).alloc _
 have bf:Blk (((w.alloc (.cells #[.pointer (some ⟨g,0,none⟩)] 28)).alloc (.cells (chcArr one) 163)).alloc (.cells #[.func (.func 163) #[] #[.pointer (some ⟨w.heap.size+1,0,none⟩)]] 186)) (w.heap.size+1+1) 186 #[.func (.func 163) #[] #[.pointer (some ⟨w.heap.size+1,0,none⟩)]]:=Blk.new_at ((w.alloc (.cells #[.pointer (some ⟨g,0,none⟩)] 28)).alloc (.cells (chcArr one) 163)) 186 #[.func (.func 163) #[] #[.pointer (some ⟨w.heap.size+1,0,none⟩)]] (w.heap.size+1+1) (by simp)
 have HB1:=Lib.hid b1
 have HBF:=Lib.hid bf
 have HLT:Hid (∀ q,v.ownBlock=some q→q < w.heap.size):=Lib.hid fun q hq=>(hr.lt q hq).2
 have HCO:=Lib.hid (containsC_any 164 #[.pointer (some ⟨w.heap.size+1+1,0,none⟩),.pointer (some ⟨w.heap.size,0,none⟩),.pointer (some ⟨w.heap.size+1,0,none⟩)] (stayB C.sts one) v kept (((w.alloc (.cells #[.pointer (some ⟨g,0,none⟩)] 28)).alloc (.cells (chcArr one) 163)).alloc (.cells #[.func (.func 163) #[] #[.pointer (some ⟨w.heap.size+1,0,none⟩)]] 186)) enters53
  (fun W x hx hb=>stays_any g (w.heap.size+1) (w.heap.size+1+1) w.heap.size x one C W (hT.below (hb0.trans (hb.mono hb0.size))) hl hR (b1.below hb b1.lt) (bf.below hb bf.lt) (bt.below hb bt.lt) (hlf x hx) ho) ((chcs_of_own hr).below hb0) (by omega))
 have HRW:=Lib.hid hr
 have HDL:=Lib.hid (fun (W:World) (h:W.ownsRow B 163 3 v kept.length (rowC kept)) (h1:Blk W (w.heap.size+1) 163 (chcArr one))=>deleteRow_any v (w.heap.size+1) B kept one W h h1 (fun q hq=>by have:=HLT.out q hq; omega) (by omega) hlf ho)
 have HRES:Hid (holdL C.sts kept one=if kept.any (stayB C.sts one)=true then kept else kept.filter (fun k=>!clB k one) ++ [one]):=Lib.hid rfl
 have HFL:Hid ((kept.filter fun k=>!clB k one).length≤900):=Lib.hid (Nat.le_trans (List.length_filter_le _ _) hk)
 have hsf:=fun (a:Addr) (m:Mode) (W:World)=>run_store_fn (.func 163) #[.pointer (some ⟨w.heap.size+1,0,none⟩)] a m W
 generalize holdL C.sts kept one=K at *
 clear hi hz0 hz1 hz2 hT hR hr hlf b1 bf bt hb0
 cases hany:kept.any (stayB C.sts one) with
 | true =>
  have HK:Hid (K=kept):=Lib.hid (by rw [HRES.out,if_pos hany])
  rw [hany] at HCO
  clear hany HRES
  go_enter Tryz.func128,Tryz.ntmps128
  go_wp2_with fail
  refine HCO.out.mono ?_
  rintro e w4 ⟨rfl,hb4⟩
  have HB4:=Lib.hid (HB0.out.trans (hb4.mono HB0.out.size))
  clear hb4
  go_wp2_with fail
  go_ret
  exact ⟨only_of_below HB4.out _,_,rfl,by rw [HK.out]; exact own_below HRW.out HB4.out⟩
 | false =>
  have HK:Hid (K=kept.filter (fun k=>!clB k one) ++ [one]):=Lib.hid (by rw [HRES.out,if_neg (by rw [hany]; simp)])
  rw [hany] at HCO
  generalize (kept.filter fun k=>!clB k one)=K0 at *
  clear hany HRES
  go_enter Tryz.func128,Tryz.ntmps128
  go_wp2_with fail
  refine HCO.out.mono ?_
  rintro e w4 ⟨rfl,hb4⟩
  have HB4:=Lib.hid (HB0.out.trans (hb4.mono HB0.out.size))
  have HD1:=Lib.hid (Blk.drew (HB1.out.below hb4 HB1.out.lt))
  have HDF:=Lib.hid (Blk.drew (HBF.out.below hb4 HBF.out.lt))
  have HRD:=Lib.hid (own_below (own_below HRW.out HB4.out) (Below.refl _ w4).drew)
  have HGD:Hid (w.grownBy w4.drew v.ownBlock):=Lib.hid (only_of_below HB4.out.drew _)
  have hs4:B≤w4.drew.heap.size:=Nat.le_trans hB HB4.out.drew.size
  have HNE:Hid (∀ q,w.heap.size≤q→some q ≠ v.ownBlock):=Lib.hid fun q hq h=>by have:=HLT.out q h.symm; omega
  have HLS:=HFL.out
  clear hb4
  go_wp2_with fail
  refine anyD_start (fun W=>W.cell? ⟨w.heap.size+1+1,0,none⟩=some (.func (.func 163) #[] #[.pointer (some ⟨w.heap.size+1,0,none⟩)])∧W.cell? ⟨w.heap.size+1,0,none⟩=some (.int .i64 one.num)∧W.cell? ⟨w.heap.size+1,1,none⟩=some (.int .i64 one.src)∧W.cell? ⟨w.heap.size+1,2,none⟩=some (.int .u32 (one.left:Int))) (fun i=>[].contains i) (by kernel_rfl) ?_
  refine anyD_t 0 v ?_
  try simp only [Act.put,sx]
  refine anyD_l 1 (.func (.func 163) #[] #[.pointer (some ⟨w.heap.size+1,0,none⟩)]) (⟨HDF.out.cell 0,HD1.out.cell 0,HD1.out.cell 1,HD1.out.cell 2⟩) ?_
  try simp only [Act.put,sx]
  refine anyD_l 3 (chcVal one) (⟨HDF.out.cell 0,HD1.out.cell 0,HD1.out.cell 1,HD1.out.cell 2⟩) ?_
  try simp only [Act.put,sx]
  refine anyD_two (i:=2) (j:=4) rfl rfl rfl rfl (by kernel_rfl) (fun K HKK=>?orderA) (fun K HKK=>?orderB)
  case' orderA =>
   go_simp
   refine (HDL.out _ HRD.out HD1.out).mono ?_
   rintro e w5 ⟨hg5,v5,rfl,hob5,ho5⟩
   have HOB:=Lib.hid hob5
   have HS5:Hid (B≤(w5.alloc (.cells (chcArr one) 163)).heap.size):=Lib.hid (Nat.le_trans hs4 (Nat.le_trans hg5.size (by simp)))
   have HDF0:=Lib.hid (HDF.out.kept hg5 (HNE.out _ (by omega)))
   have HD10:=Lib.hid (HD1.out.kept hg5 (HNE.out _ (by omega)))
   have HDF5:=Lib.hid (HDF0.out.alloc (.cells (chcArr one) 163))
   have HD15:=Lib.hid (HD10.out.alloc (.cells (chcArr one) 163))
   have HG5:=Lib.hid (grown_trans (grown_trans HGD.out hg5) (World.grownBy_alloc w5 (.cells (chcArr one) 163) v.ownBlock))
   have HO5:=Lib.hid (ho5.alloc (.cells (chcArr one) 163))
   have HX5:=Lib.hid (Blk.new w5 163 (chcArr one))
   clear hob5 hg5 ho5
   go_simp
   refine HKK.out _ _ (fun _ hS=>⟨HDF0.out.cell 0,HD10.out.cell 0,HD10.out.cell 1,HD10.out.cell 2⟩) ?_
   clear HKK K
   try simp only [Act.put,sx]
   refine anyD_one (i:=4) rfl rfl (by kernel_rfl) (fun K HKK=>?_)
   go_simp
   refine HKK.out _ _ (fun _ hS=>⟨HDF5.out.cell 0,HD15.out.cell 0,HD15.out.cell 1,HD15.out.cell 2⟩) ?_
   clear HKK K
   try simp only [Act.put,sx]
   refine anyD_one (i:=5) rfl rfl (by kernel_rfl) (fun K HKK=>?_)
   refine wp_append_at _ _ 157 rfl B 163 i0 (.agg #[.int .i64 0,.int .i64 0,.int .u32 0]) 3 24 Tryz.underlying157 HI.out HZ0.out HZ1.out HZ2.out rfl (by decide) _ _ _ rfl HO5.out ⟨w5.heap.size,0,none⟩ 1 1 (chcCells one) rfl rfl (chc_at HX5.out) (chc_one one) (by unfold maxLen; omega) (by omega) (by have:=HS5.out; omega) ?_
   intro v6 w6 hown6 hgrow6 _
   have HF6:Hid (w6.ownsRow B 163 3 v6 K0.length.succ (rowC K0 ++ chcCells one)):=Lib.hid hown6
   have HG6:=Lib.hid (grown_trans HG5.out (by rw [← HOB.out]; exact hgrow6))
   clear hown6
   refine HKK.out _ _ (fun _ hS=>⟨(Lib.hid (HDF5.out.kept (by rw [← HOB.out]; exact hgrow6:World.grownBy _ w6 v.ownBlock) (HNE.out _ (by omega)))).out.cell 0,(Lib.hid (HD15.out.kept (by rw [← HOB.out]; exact hgrow6:World.grownBy _ w6 v.ownBlock) (HNE.out _ (by omega)))).out.cell 0,(Lib.hid (HD15.out.kept (by rw [← HOB.out]; exact hgrow6:World.grownBy _ w6 v.ownBlock) (HNE.out _ (by omega)))).out.cell 1,(Lib.hid (HD15.out.kept (by rw [← HOB.out]; exact hgrow6:World.grownBy _ w6 v.ownBlock) (HNE.out _ (by omega)))).out.cell 2⟩) ?_
   clear HKK K
   try simp only [Act.put,sx]
   refine anyD_t 6 v6 ?_
   try simp only [Act.put,sx]
   refine anyD_done (by kernel_rfl) ?_
  case' orderB =>
   go_simp
   refine HKK.out _ _ (fun _ hS=>⟨(Lib.hid (HDF.out.alloc (.cells (chcArr one) 163))).out.cell 0,(Lib.hid (HD1.out.alloc (.cells (chcArr one) 163))).out.cell 0,(Lib.hid (HD1.out.alloc (.cells (chcArr one) 163))).out.cell 1,(Lib.hid (HD1.out.alloc (.cells (chcArr one) 163))).out.cell 2⟩) ?_
   clear HKK K
   try simp only [Act.put,sx]
   refine anyD_one (i:=2) rfl rfl (by kernel_rfl) (fun K HKK=>?_)
   go_simp
   refine (HDL.out _ (HRD.out.alloc (.cells (chcArr one) 163)) (HD1.out.alloc (.cells (chcArr one) 163))).mono ?_
   rintro e w5 ⟨hg5,v5,rfl,hob5,ho5⟩
   have HOB:=Lib.hid hob5
   have HS5:Hid (B≤w5.heap.size):=Lib.hid (Nat.le_trans hs4 (Nat.le_trans (by simp) hg5.size))
   have HDF5:=Lib.hid ((HDF.out.alloc (.cells (chcArr one) 163)).kept hg5 (HNE.out _ (by omega)))
   have HD15:=Lib.hid ((HD1.out.alloc (.cells (chcArr one) 163)).kept hg5 (HNE.out _ (by omega)))
   have HG5:=Lib.hid (grown_trans (grown_trans HGD.out (World.grownBy_alloc w4.drew (.cells (chcArr one) 163) v.ownBlock)) hg5)
   have HO5:=Lib.hid ho5
   have HX5:=Lib.hid ((Blk.new w4.drew 163 (chcArr one)).kept hg5 (HNE.out _ HB4.out.drew.size))
   clear hob5 hg5 ho5
   go_simp
   refine HKK.out _ _ (fun _ hS=>⟨HDF5.out.cell 0,HD15.out.cell 0,HD15.out.cell 1,HD15.out.cell 2⟩) ?_
   clear HKK K
   try simp only [Act.put,sx]
   refine anyD_one (i:=5) rfl rfl (by kernel_rfl) (fun K HKK=>?_)
   refine wp_append_at _ _ 157 rfl B 163 i0 (.agg #[.int .i64 0,.int .i64 0,.int .u32 0]) 3 24 Tryz.underlying157 HI.out HZ0.out HZ1.out HZ2.out rfl (by decide) _ _ _ rfl HO5.out ⟨w4.drew.heap.size,0,none⟩ 1 1 (chcCells one) rfl rfl (chc_at HX5.out) (chc_one one) (by unfold maxLen; omega) (by omega) (by have:=HS5.out; omega) ?_
   intro v6 w6 hown6 hgrow6 _
   have HF6:Hid (w6.ownsRow B 163 3 v6 K0.length.succ (rowC K0 ++ chcCells one)):=Lib.hid hown6
   have HG6:=Lib.hid (grown_trans HG5.out (by rw [← HOB.out]; exact hgrow6))
   clear hown6
   refine HKK.out _ _ (fun _ hS=>⟨(Lib.hid (HDF5.out.kept (by rw [← HOB.out]; exact hgrow6:World.grownBy _ w6 v.ownBlock) (HNE.out _ (by omega)))).out.cell 0,(Lib.hid (HD15.out.kept (by rw [← HOB.out]; exact hgrow6:World.grownBy _ w6 v.ownBlock) (HNE.out _ (by omega)))).out.cell 0,(Lib.hid (HD15.out.kept (by rw [← HOB.out]; exact hgrow6:World.grownBy _ w6 v.ownBlock) (HNE.out _ (by omega)))).out.cell 1,(Lib.hid (HD15.out.kept (by rw [← HOB.out]; exact hgrow6:World.grownBy _ w6 v.ownBlock) (HNE.out _ (by omega)))).out.cell 2⟩) ?_
   clear HKK K
   try simp only [Act.put,sx]
   refine anyD_t 6 v6 ?_
   try simp only [Act.put,sx]
   refine anyD_done (by kernel_rfl) ?_
  all_goals (
   clear hgrow6
   go_wp2_with fail
   go_ret
   exact ⟨HG6.out,_,rfl,by rw [HK.out,rowC_snoc,List.length_append]; exact HF6.out⟩)

def numsC (K:List Chc):List Int:=K.map fun c=>c.num
theorem si_lefts (C:Ch) (lf:Int→Nat) (hlf:∀ i,lf i < 4294967296) {kept:List Chc} (h:∀ c ∈ kept,c.left < 4294967296) (i:Int):∀ c ∈ holdL C.sts kept (chOf C lf i),c.left < 4294967296:=fun c hc=>by
 rcases hold_mem C hc with h1 | rfl
 · exact h c h1
 · exact hlf i
set_option maxHeartbeats 8000000 in
set_option maxRecDepth 100000 in
theorem sift_any (g n:Nat) (vl:Value) (l:List Int) (C:Ch) (w:World) (hT:TreeAt w g C) (hF:fewB C=true) (hta:Tame C.sts) (hR:Rooted C.sts) (hn:n < 4294967296) (hv:ListAt w vl l) (hll:l.length≤800) :
 Calls Tryz.prog 79 #[.pointer (some ⟨g,0,none⟩),.int .u32 (n:Int),vl] w (KPost (numsC (siL C (leftN C n) l)) w):=by
 obtain ⟨i0,hi,hz0,hz1,hz2⟩:=info_parts Tryz.info3
 have HI:=Lib.hid hi
 have HZ0:=Lib.hid hz0
 have HZ1:=Lib.hid hz1
 have HZ2:=Lib.hid hz2
 have hl24:=hta.len
 have hl60:C.trs.length≤60:=(few_parts hF).2.1
 have HCT:=Lib.hid (ctrans_any g C w hT hF)
 have HLS0:=Lib.hid (fun (W:World) (h:Below w.heap.size w W) (i:Int)=>lset_any g n i C W (hT.below h) hF hta hR hn)
 have HHO0:=Lib.hid (fun (B:Nat) (v:Value) (kept:List Chc) (one:Chc) (W:World) (h:Below w.heap.size w W) (hr:W.ownsRow B 163 3 v kept.length (rowC kept)) (hB:B≤W.heap.size) (hk:kept.length≤900) hlf ho=>hold_any g B v kept one C W (hT.below h) (by omega) hR hr hB hk hlf ho)
 have HLI:=Lib.hid hv
 obtain ⟨lA,lcap,rfl,hlc,he⟩:=hv
 have HE:=Lib.hid he
 obtain ⟨X,hX⟩:∃ X,X=siL C (leftN C n) l:=⟨_,rfl⟩
 rw [← hX]
 have HX:Hid (X=l.foldl (siStep C (leftN C n)) []):=Lib.hid hX
 clear hi hz0 hz1 hz2 hT hF hta hR he hX
 go_enter Tryz.func79,Tryz.ntmps79
 go_wp2_with fail
 refine HCT.out.mono ?_
 rintro e w1 ⟨hb1,vt,rfl,hT1⟩
 have HB1:=Lib.hid hb1
 have HT1:=Lib.hid hT1
 obtain ⟨tA,tcap,rfl,htcap⟩:=RowsAt.slice hT1
 have HLS:=Lib.hid (fun (W:World) (h:Below w1.heap.size w1 W) (i:Int)=>HLS0.out W (HB1.out.trans (h.mono HB1.out.size)) i)
 have HHO:=Lib.hid (fun (v:Value) (kept:List Chc) (one:Chc) (W:World) (h:Below w1.heap.size w1 W) hr hk hlf ho=>HHO0.out w1.heap.size v kept one W (HB1.out.trans (h.mono HB1.out.size)) hr h.size hk hlf ho)
 clear hb1 hT1
 go_wp2_with fail
 go_loopw [8,18] (fun v i wr=>∃ (k:Nat) (kept:List Chc),k≤l.length∧kept.length≤k∧i=.int .i64 (k:Int)∧Hid (X=(l.drop k).foldl (siStep C (leftN C n)) kept)∧Hid (∀ c ∈ kept,c.left < 4294967296)∧Below w1.heap.size w1 wr∧Hid (wr.ownsRow w1.heap.size 163 3 v kept.length (rowC kept))) (fun _ i _=>l.length - (intOf i).toNat)
 case atStart=>exact ⟨0,[],Nat.zero_le _,Nat.zero_le _,rfl,HX,Lib.hid (fun c hc=>by cases hc),Below.refl _ _,Lib.hid (World.ownsRow_nil _ _ _ _)⟩
 case round =>
  clear HX
  obtain ⟨k,kept,hk,hkl,rfl,HX,HLF,hb,hown⟩:=hrel
  obtain ⟨wo,rfl⟩:∃ wo:World,wo=wr:=⟨_,rfl⟩
  have HB:=Lib.hid hb
  by_cases hlt:k < l.length
  · obtain ⟨lb,lo,rfl,hlbl,hlc0⟩:=HE.out k _ (List.getElem?_eq_getElem hlt)
    have c0:wo.cell? ⟨lb,lo+k,none⟩=some (.int .i64 l[k]):=by have:=IntAt.keeps w wo lb _ _ (HB1.out.trans (hb.mono HB1.out.size)) hlbl hlc0; rwa [Nat.mul_one] at this
    have HX2:Hid (X=(l.drop (k+1)).foldl (siStep C (leftN C n)) (siStep C (leftN C n) kept l[k])):=Lib.hid (HX.out.trans (drop_fold _ l k hlt _))
    generalize l[k]=i at *
    clear hlc0 hb HX
    cases hi:isTr C.trs i with
    | false =>
     have HIT:=Lib.hid hi
     have HX3:Hid (X=(l.drop (k+1)).foldl (siStep C (leftN C n)) kept):=Lib.hid (by rw [HX2.out]; unfold siStep; rw [if_neg (fun h=>by rw [h.1] at hi; cases hi)])
     clear hi HX2
     go_wp2_with fail
     refine (isPlace_any tA C.trs tcap i wo (by omega)).mono ?_
     rintro e w2 ⟨rfl,rfl⟩
     rw [HIT.out]
     go_wp2_with fail
     go_roundw
     case rel=>exact ⟨k+1,kept,by omega,by omega,by go_num,HX3,HLF,HB.out,hown⟩
     case measure=>simp [intOf]; omega
    | true =>
     have HIT:=Lib.hid hi
     have HAM:=Lib.hid (isAmong_any u8 kept i wo (chcs_of_own hown.out) (by omega))
     cases ha:keptB kept i with
     | true =>
      rw [ha] at HAM
      have HX3:Hid (X=(l.drop (k+1)).foldl (siStep C (leftN C n)) kept):=Lib.hid (by rw [HX2.out]; unfold siStep; rw [if_neg (fun h=>by rw [h.2] at ha; cases ha)])
      clear hi ha HX2
      go_wp2_with fail
      refine (isPlace_any tA C.trs tcap i wo (by omega)).mono ?_
      rintro e w2 ⟨rfl,rfl⟩
      rw [HIT.out]
      go_wp2_with fail
      refine HAM.out.mono ?_
      rintro e w3 ⟨rfl,hb3⟩
      have HB3:=Lib.hid (HB.out.trans (hb3.mono HB.out.size))
      have HR3:=Lib.hid (own_below hown.out hb3)
      clear hb3
      go_wp2_with fail
      go_roundw
      case rel=>exact ⟨k+1,kept,by omega,by omega,by go_num,HX3,HLF,HB3.out,HR3⟩
      case measure=>simp [intOf]; omega
     | false =>
      rw [ha] at HAM
      have HX3:Hid (X=(l.drop (k+1)).foldl (siStep C (leftN C n)) (holdL C.sts kept (chOf C (leftN C n) i))):=Lib.hid (by rw [HX2.out]; unfold siStep; rw [if_pos ⟨hi,ha⟩])
      have HLF2:=Lib.hid (si_lefts C (leftN C n) (fun i=>leftN_lt C n i) HLF.out i)
      have HHL:=Lib.hid (hold_len C kept (chOf C (leftN C n) i))
      obtain ⟨q,rfl,hq⟩:=isTr_nat hi
      obtain ⟨b,o,cap2,wt,wa,hsl,_,hbl,hst,_⟩:=HT1.out.at_ hq
      injection hsl with e1 _ e3
      subst e1; subst e3
      have hco:chOf C (leftN C n) (q:Int)=⟨(q:Int),(trAt C.trs (q:Int)).src,leftN C n (q:Int)⟩:=rfl
      rw [hco] at HX3 HLF2 HHL
      have hsc:=hst.1
      generalize (trAt C.trs (q:Int)).src=src at *
      have HSC:Hid (∀ W,Below w1.heap.size w1 W→W.cell? ⟨b,o+q * 6,none⟩=some (.int .i64 src)):=Lib.hid fun W h=>(h.cell (p:=⟨b,_,none⟩) hbl).trans hsc
      clear hi ha HX2 hst hsc hco
      go_wp2_with fail
      refine (isPlace_any _ C.trs tcap (q:Int) wo (by omega)).mono ?_
      rintro e w2 ⟨rfl,rfl⟩
      rw [HIT.out]
      go_wp2_with fail
      refine HAM.out.mono ?_
      rintro e w3 ⟨rfl,hb3⟩
      have HB3:=Lib.hid (HB.out.trans (hb3.mono HB.out.size))
      have HBD:=Lib.hid HB3.out.drew
      have HRD:=Lib.hid (own_below (own_below hown.out hb3) (Below.refl _ w3).drew)
      clear hb3 c0
      go_wp2_with fail
      refine anyD_start (fun W=>W.cell? ⟨b,o+q * 6,none⟩=some (.int .i64 src)) (fun i=>[].contains i) (by kernel_rfl) ?_
      refine anyD_t 0 (.pointer (some ⟨g,0,none⟩)) ?_
      try simp only [Act.put,sx]
      refine anyD_t 1 u8 ?_
      try simp only [Act.put,sx]
      refine anyD_t 2 (.int .i64 (q:Int)) ?_
      try simp only [Act.put,sx]
      refine anyD_t 3 (.slice (some ⟨b,o,none⟩) C.trs.length tcap) ?_
      try simp only [Act.put,sx]
      refine anyD_t 4 (.int .i64 (q:Int)) ?_
      try simp only [Act.put,sx]
      refine anyD_t 5 (.pointer (some ⟨b,o+q * 6,none⟩)) ?_
      try simp only [Act.put,sx]
      refine anyD_t 6 (.pointer (some ⟨b,o+q * 6,none⟩)) ?_
      try simp only [Act.put,sx]
      refine anyD_load (i:=7) (v:=.int .i64 src) rfl (by kernel_rfl) (by kernel_rfl) (by kernel_rfl) (by kernel_rfl) (fun _ _ _ h=>h) (Or.inl ⟨by kernel_rfl,fun w hS=>by go_simp⟩) (HSC.out _ HBD.out) ?_
      try simp only [Act.put,sx]
      refine anyD_t 8 (.pointer (some ⟨g,0,none⟩)) ?_
      try simp only [Act.put,sx]
      refine anyD_t 9 (.int .u32 (n:Int)) ?_
      try simp only [Act.put,sx]
      refine anyD_t 10 (.int .i64 (q:Int)) ?_
      try simp only [Act.put,sx]
      refine anyD_one (i:=11) rfl rfl (by kernel_rfl) (fun K HK=>?_)
      go_simp
      refine (HLS.out _ HBD.out (q:Int)).mono ?_
      rintro e w4 ⟨rfl,hb4⟩
      have HB4:=Lib.hid (HBD.out.trans (hb4.mono HBD.out.size))
      have HR4:=Lib.hid (own_below HRD.out hb4)
      clear hb4
      go_simp
      refine HK.out _ _ (fun _ hS=>HSC.out _ HB4.out) ?_
      clear HK K
      try simp only [Act.put,sx]
      refine anyD_t 12 (.agg #[.int .i64 (q:Int),.int .i64 src,.int .u32 ((leftN C n (q:Int):Nat):Int)]) ?_
      try simp only [Act.put,sx]
      refine anyD_one (i:=13) rfl rfl (by kernel_rfl) (fun K HK=>?_)
      go_simp
      refine (HHO.out u8 kept ⟨(q:Int),src,leftN C n (q:Int)⟩ _ HB4.out HR4.out (by omega) HLF.out (leftN_lt C n (q:Int))).mono ?_
      rintro e w5 ⟨hg5,v5,rfl,ho5⟩
      have HB5:=Lib.hid (Below.grown HB4.out hg5 HB4.out.size (fun b hb=>(HR4.out.lt b hb).1))
      have HO5:=Lib.hid ho5
      clear hg5 ho5
      go_simp
      refine HK.out _ _ (fun _ hS=>HSC.out _ HB5.out) ?_
      clear HK K
      try simp only [Act.put,sx]
      refine anyD_t 14 v5 ?_
      try simp only [Act.put,sx]
      refine anyD_done (by kernel_rfl) ?_
      go_wp2_with fail
      go_roundw
      case rel=>exact ⟨k+1,_,by omega,Nat.le_trans HHL.out (by omega),by go_num,HX3,HLF2,HB5.out,HO5⟩
      case measure=>simp [intOf]; omega
  · obtain rfl:k=l.length:=by omega
    have HX2:Hid (X=kept):=Lib.hid (by rw [HX.out,List.drop_length,List.foldl_nil])
    obtain ⟨kA,kcap,hv8,hkc,hke⟩:=chcs_of_own hown.out
    subst hv8
    have HKE:=Lib.hid hke
    have HBW:=Lib.hid (HB1.out.trans (hb.mono HB1.out.size))
    clear hke hb
    go_wp2_with fail
    go_loopw [11,48] (fun v i wr=>∃ m:Nat,m≤kept.length∧i=.int .i64 (m:Int)∧Below wo.heap.size wo wr∧Hid (wr.ownsRow wo.heap.size 3 1 v (numsC (kept.take m)).length (intVals (numsC (kept.take m))))) (fun _ i _=>kept.length - (intOf i).toNat)
    case atStart=>exact ⟨0,Nat.zero_le _,rfl,Below.refl _ _,Lib.hid (World.ownsRow_nil _ _ _ _)⟩
    case round =>
     obtain ⟨m,hm,rfl,hb,hown2⟩:=hrel
     obtain ⟨wp,rfl⟩:∃ wp:World,wp=wr:=⟨_,rfl⟩
     have HBP:=Lib.hid hb
     by_cases hlt2:m < kept.length
     · obtain ⟨kb,ko,rfl,hkbl,hkc0⟩:=HKE.out m _ (List.getElem?_eq_getElem hlt2)
       obtain ⟨d0,d1,d2⟩:=ChcAt.keeps wo wp kb _ _ hb hkbl hkc0
       have HSN:Hid (numsC (kept.take (m+1))=numsC (kept.take m) ++ [kept[m].num]):=Lib.hid (by unfold numsC; rw [List.take_succ_eq_append_getElem hlt2,List.map_append]; rfl)
       have hnl:(numsC (kept.take m)).length≤800:=by unfold numsC; rw [List.length_map,List.length_take]; omega
       have hbs:wo.heap.size≤wp.heap.size:=hb.size
       have HBA:=Lib.hid (hb.alloc hb.size (.cells (chcArr kept[m]) 163))
       have HOA:=Lib.hid (hown2.out.alloc (.cells (chcArr kept[m]) 163))
       generalize kept[m]=x at *
       generalize numsC (kept.take m)=G at *
       obtain ⟨num,src,left⟩:=x
       simp only at d0 d1 d2 HSN HBA HOA
       clear hkc0 hb hown2
       go_wp2_with (at_builtin; refine wpList_append_own_at _ rfl _ _ 36 rfl (wo.heap.size) 3 i0 (.int .i64 0) 1 8 Tryz.underlying36 HI.out HZ0.out HZ1.out HZ2.out rfl (by decide) _ _ _ rfl (HOA.out.alloc _) ⟨wp.heap.size+1,0,none⟩ 1 1 [.int .i64 num] rfl rfl ?c1 ?c2 ?c3 ?c4 ?c5 ?_)
       case c1=>exact new_val _ _ _ _ (by simp)
       case c2=>exact int_one _
       case c3=>unfold maxLen; omega
       case c4=>omega
       case c5=>simp; omega
       intro v' w5 hown' hgrow _ _
       have HG:=Lib.hid (Below.grown (HBA.out.alloc HBA.out.size _) hgrow (by simp; omega) (fun g hg=>by have:=(HOA.out.lt g hg).1; simpa using this))
       have HO':=Lib.hid hown'
       clear hown' hgrow
       go_wp2_with fail
       go_roundw
       case rel=>exact ⟨m+1,by omega,by go_num,HG.out,Lib.hid (by rw [HSN.out,intVals_snoc]; simpa using HO'.out)⟩
       case measure=>simp [intOf]; omega
     · obtain rfl:m=kept.length:=by omega
       rw [List.take_length] at hown2
       go_wp2_with fail
       go_ret
       exact ⟨HBW.out.trans (HBP.out.mono HBW.out.size),_,rfl,by rw [HX2.out]; exact own_lower hown2.out HBW.out.size⟩
end Go.Proofs.YtmhkpjcdkjnlnaaGreatDoor
