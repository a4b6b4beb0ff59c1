/- The contracts of enter's small functions: bit, isHistory, has, members, of: what a state stands for. -/
import Derived.Test.YtmhkpjcdkjnlnaaGreatDoorFUPkind
import Derived.Test.YtmhkpjcdkjnlnaaGreatDoorFUTnw
import Derived.Test.YtmhkpjcdkjnlnaaGreatDoorFUSpure
namespace Go.Proofs.YtmhkpjcdkjnlnaaGreatDoor
open Go.ChangeShapes Go.WideShapes Go.ChangeAt Go.RowKit
set_option linter.unusedVariables false

def U32At (w:World) (b o:Nat) (x:Nat):Prop:=w.cell? ⟨b,o,none⟩=some (.int .u32 (x:Int))∧x < 4294967296
theorem U32At.keeps:Keeps U32At:=fun w w' b o x hb hlt h=>⟨(hb.cell (p:=⟨b,o,none⟩) hlt).trans h.1,h.2⟩
def HistAt (w:World) (v:Value) (H:List Nat):Prop:=RowsAt 1 U32At w v H
theorem HistAt.below {w w':World} {v:Value} {H:List Nat} (h:HistAt w v H) (hb:Below w.heap.size w w'):HistAt w' v H:=RowsAt.below U32At.keeps h hb
abbrev siBox (vs vh:Value):Obj:=.cells #[vs,vh] 91
theorem bitS_any (k:Nat) (hk:k≤31) (w:World):Calls Tryz.prog 87 #[.int .i64 (k:Int)] w fun e w'=>e=.returned (.int .u32 ((2 ^ k:Nat):Int))∧w=w':=by
 have h0:decide ((k:Int) < 0)=false:=by simp
 go_enter Tryz.func87,Tryz.ntmps87
 go_wp2_with fail
 go_ret
 refine ⟨ret_int ?_,rfl⟩
 have h1:(2:Nat) ^ k≤2 ^ 31:=Nat.pow_le_pow_right (by decide) hk
 have h2:((2:Int) ^ k)=((2 ^ k:Nat):Int):=by simp
 rw [show (2:Nat) ^ 31=2147483648 by decide] at h1
 rw [h2]
 generalize 2 ^ k=m at *
 omega
theorem isHistS_any (K:Int) (w:World):Calls Tryz.prog 88 #[.int .i64 K] w fun e w'=>e=.returned (.bool (histB K))∧w=w':=by
 by_cases h:K=5
 · subst h
   go_enter Tryz.func88,Tryz.ntmps88
   go_wp2_with fail
   go_ret
   exact ⟨rfl,rfl⟩
 · have h2:(K == 5)=false:=by simpa using h
   go_enter Tryz.func88,Tryz.ntmps88
   go_wp2_with fail
   go_ret
   exact ⟨ret_bool (by unfold histB; simp [h]; rfl),rfl⟩
theorem hasS_any (vs vh:Value) (S:List St) (s:Int) (w:World) (hS:StsAt w vs S) (hl:S.length≤1000) :
 Calls Tryz.prog 86 #[.agg #[vs,vh],.int .i64 s] w fun e w'=>e=.returned (.bool (isSt S s))∧Below w.heap.size w w':=by
 obtain ⟨A,cap,rfl,hcap⟩:=RowsAt.slice hS
 have HB:=Lib.hid (below_box w (siBox (.slice A S.length cap) vh))
 clear hS
 by_cases h:0≤s
 · have h2:decide (0≤s)=true:=by simpa using h
   go_enter Tryz.func86,Tryz.ntmps86
   go_wp2_with fail
   go_ret
   exact ⟨ret_bool (by unfold isSt; rw [h2]; rfl),HB.out⟩
 · have h2:decide (0≤s)=false:=by simpa using h
   go_enter Tryz.func86,Tryz.ntmps86
   go_wp2_with fail
   go_ret
   exact ⟨ret_bool (by unfold isSt; rw [h2]; rfl),HB.out⟩
theorem and_bit (n k:Nat) (hn:n < 4294967296) (hk:k≤31):bits .and .u32 (n:Int) ((2:Int) ^ k)=if bitN n k=true then ((2:Int) ^ k) else 0:=by
 have h1:2 ^ k < 2 ^ 32:=Nat.pow_lt_pow_right (by decide) (by omega)
 have h2:((2:Int) ^ k)=((2 ^ k:Nat):Int):=by simp
 have h3:n &&& 2 ^ k=if bitN n k=true then 2 ^ k else 0:=by
  refine Nat.eq_of_testBit_eq fun i=>?_
  rw [Nat.testBit_and,Nat.testBit_two_pow]
  unfold bitN
  rw [← Nat.testBit_eq_decide_div_mod_eq]
  by_cases hi:k=i
  · subst hi
    cases n.testBit k <;> simp
  · cases n.testBit k <;> simp [hi]
 rw [h2,(bits_nat .u32 32 (by decide) wrap_u32 _ _ hn h1).1,h3]
 split <;> rfl
def membU (P:Nat→Bool) (k:Nat):List Int:=((List.range k).filter P).map fun j:Nat=>(j:Int)
theorem membU_succ (P:Nat→Bool) (k:Nat):membU P (k+1)=membU P k ++ if P k=true then [(k:Int)] else []:=by
 unfold membU
 rw [List.range_succ,List.filter_append,List.map_append]
 by_cases h:P k=true
 · simp [h]
 · simp [h]
theorem membU_len (P:Nat→Bool) (k:Nat):(membU P k).length≤k:=by
 unfold membU
 rw [List.length_map]
 simpa using List.length_filter_le P (List.range k)
set_option maxHeartbeats 1000000 in
set_option maxRecDepth 100000 in
theorem members_any (vs vh:Value) (S:List St) (n:Nat) (w:World) (hS:StsAt w vs S) (hl:S.length≤31) (hn:n < 4294967296) :
 Calls Tryz.prog 137 #[.agg #[vs,vh],.int .u32 (n:Int)] w (KPost (memb S (bitN n)) w):=by
 obtain ⟨i0,hi,hz0,hz1,hz2⟩:=info_parts Tryz.info3
 have HI:=Lib.hid hi
 have HZ0:=Lib.hid hz0
 have HZ1:=Lib.hid hz1
 have HZ2:=Lib.hid hz2
 clear hi hz0 hz1 hz2
 obtain ⟨A,cap,rfl,hcap⟩:=RowsAt.slice hS
 have HM:=Lib.hid (show memb S (bitN n)=membU (bitN n) S.length from rfl)
 have HML:=Lib.hid (membU_len (bitN n))
 clear hS
 go_enter Tryz.func137,Tryz.ntmps137
 go_wp2_with fail
 go_loopw [5,10] (fun v i wr=>∃ (k:Nat),k≤S.length∧i=.int .i64 (k:Int)∧Below (w.alloc (siBox (.slice A S.length cap) vh)).heap.size (w.alloc (siBox (.slice A S.length cap) vh)) wr∧Hid (wr.ownsRow (w.heap.size+1) 3 1 v (membU (bitN n) k).length (intVals (membU (bitN n) k)))) (fun _ i _=>S.length - (intOf i).toNat)
 case atStart=>exact ⟨0,Nat.zero_le _,rfl,Below.refl _ _,Lib.hid (World.ownsRow_nil _ _ _ _)⟩
 case round =>
  obtain ⟨k,hk,rfl,hb,hown⟩:=hrel
  obtain ⟨wo,rfl⟩:∃ wo:World,wo=wr:=⟨_,rfl⟩
  by_cases hlt:k < S.length
  · have hand:=and_bit n k hn (by omega)
    have HSUC:=Lib.hid (membU_succ (bitN n) k)
    have hkl:=HML.out k
    have HB:=Lib.hid hb
    have hbs:w.heap.size+1≤wo.heap.size:=by have:=hb.size; simpa using this
    have hpw:¬ ((2:Int) ^ k=0):=by
     have h2:((2:Int) ^ k)=((2 ^ k:Nat):Int):=by simp
     rw [h2]
     have:=Nat.pow_pos (n:=k) (show 0 < 2 by decide)
     omega
    clear hb
    cases hbit:bitN n k with
    | true =>
     rw [hbit,if_pos rfl] at hand
     have hne:(bits .and .u32 (n:Int) ((2:Int) ^ k) != 0)=true:=by rw [hand]; exact bne_iff_ne.2 hpw
     have HBIT:=Lib.hid hbit
     clear hand hbit hpw
     go_wp2_with fail
     refine (bitS_any k (by omega) _).mono ?_
     rintro e w1 ⟨rfl,rfl⟩
     go_wp2_with (at_builtin; refine wpList_append_own_at _ rfl _ _ 36 rfl (w.heap.size+1) 3 i0 (.int .i64 0) 1 8 Tryz.underlying36 HI.out HZ0.out HZ1.out HZ2.out rfl (by decide) _ _ _ rfl (hown.out.alloc _) ⟨wo.heap.size,0,none⟩ 1 1 [.int .i64 (k:Int)] rfl rfl ?c1 ?c2 ?c3 ?c4 ?c5 ?_)
     case c1=>exact new_val _ _ _ _ (by simp)
     case c2=>exact int_one _
     case c3=>unfold maxLen; omega
     case c4=>omega
     case c5=>simp; omega
     intro v' w2 hown' hgrow _ _
     have HG:=Lib.hid (Below.grown (HB.out.alloc HB.out.size _) hgrow (by simp; omega) (fun g hg=>by have:=(hown.out.lt g hg).1; simpa using this))
     have HO':=Lib.hid hown'
     clear hown' hgrow
     go_wp2
     go_roundw
     case rel=>exact ⟨k+1,by omega,by go_num,HG.out,Lib.hid (by rw [HSUC.out,if_pos HBIT.out,intVals_snoc]; simpa using HO'.out)⟩
     case measure=>simp [intOf]; omega
    | false =>
     rw [hbit,if_neg (by simp)] at hand
     have hne:(bits .and .u32 (n:Int) ((2:Int) ^ k) != 0)=false:=by rw [hand]; simp
     have HBIT:=Lib.hid hbit
     clear hand hbit hpw
     go_wp2_with fail
     refine (bitS_any k (by omega) _).mono ?_
     rintro e w1 ⟨rfl,rfl⟩
     go_wp2_with fail
     go_roundw
     case rel=>exact ⟨k+1,by omega,by go_num,HB.out,Lib.hid (by rw [HSUC.out,if_neg (by rw [HBIT.out]; simp),List.append_nil]; exact hown.out)⟩
     case measure=>simp [intOf]; omega
  · obtain rfl:k=S.length:=by omega
    go_wp2_with fail
    go_ret
    exact ⟨below_boxed hb,_,rfl,by rw [HM.out]; exact own_lower hown.out (by omega)⟩

def LiAt (K:Nat→Prop) (w:World) (v:Value) (L:List Int):Prop:=RowsAt 1 (fun w b o x=>IntAt w b o x∧K b) w v L
theorem LiAt.list {K:Nat→Prop} {w:World} {v:Value} {L:List Int} (h:LiAt K w v L):ListAt w v L:=by
 obtain ⟨A,cap,hv,hc,hi⟩:=h
 refine ⟨A,cap,hv,hc,fun i x hx=>?_⟩
 obtain ⟨b,o,h1,h2,h3⟩:=hi i x hx
 exact ⟨b,o,h1,h2,h3.1⟩
theorem LiAt.mono {K K':Nat→Prop} {w:World} {v:Value} {L:List Int} (h:LiAt K w v L) (hK:∀ b,b < w.heap.size→K b→K' b):LiAt K' w v L:=by
 obtain ⟨A,cap,hv,hc,hi⟩:=h
 refine ⟨A,cap,hv,hc,fun i x hx=>?_⟩
 obtain ⟨b,o,h1,h2,h3⟩:=hi i x hx
 exact ⟨b,o,h1,h2,h3.1,hK b h2 h3.2⟩
theorem LiAt.grown {K:Nat→Prop} {w w':World} {row:Option Nat} {v:Value} {L:List Int} (h:LiAt K w v L) (hg:w.grownBy w' row) (hK:∀ b,b < w.heap.size→K b→some b ≠ row):LiAt K w' v L:=by
 obtain ⟨A,cap,hv,hc,hi⟩:=h
 refine ⟨A,cap,hv,hc,fun i x hx=>?_⟩
 obtain ⟨b,o,h1,h2,h3⟩:=hi i x hx
 exact ⟨b,o,h1,Nat.lt_of_lt_of_le h2 hg.size,(World.cell?_of_block (hg.block b h2 (hK b h2 h3.2))).trans h3.1,h3.2⟩
theorem LiAt.below {K:Nat→Prop} {w w':World} {v:Value} {L:List Int} (h:LiAt K w v L) (hb:Below w.heap.size w w'):LiAt K w' v L:=h.grown (only_of_below hb none) (fun _ _ _ h=>by cases h)
theorem LiAt.of_list {K:Nat→Prop} {w:World} {v:Value} {L:List Int} (h:ListAt w v L) (hK:∀ b,b < w.heap.size→K b):LiAt K w v L:=by
 obtain ⟨A,cap,hv,hc,hi⟩:=h
 refine ⟨A,cap,hv,hc,fun i x hx=>?_⟩
 obtain ⟨b,o,h1,h2,h3⟩:=hi i x hx
 exact ⟨b,o,h1,h2,h3,hK b h2⟩
theorem LiAt.of_own {K:Nat→Prop} {w:World} {B:Nat} {v:Value} {L:List Int} (h:w.ownsRow B 3 1 v L.length (intVals L)) (hK:∀ b,B≤b→K b):LiAt K w v L:=by
 have h':=h
 rcases h.2 with ⟨h1,h0⟩ | ⟨g,cap,cur,rfl,hge,hgt,hcap,_⟩
 · obtain rfl:L=[]:=List.eq_nil_of_length_eq_zero h0
   rw [h1]
   exact RowsAt.nil w
 · refine ⟨_,cap,rfl,hcap,fun i x hx=>⟨g,0,rfl,(h'.lt g rfl).2,?_,hK g hge⟩⟩
   show w.cell? ⟨g,0+i * 1,none⟩=_
   rw [Nat.zero_add,Nat.mul_one]
   exact own_cell h' i _ (by simp [intVals,hx])
def IntsPost (n:Nat) (L:List Int) (w:World) (e:Ending) (w':World):Prop:=Below w.heap.size w w'∧∃ v,e=.returned v∧LiAt (fun b=>b < n ∨ w.heap.size≤b) w' v L
theorem StsAt.st {w:World} {vs:Value} {S:List St} (h:StsAt w vs S) {k:Nat} (hk:k < S.length) :
 ∃ (b o cap:Nat) (vi ve vx:Value),vs=.slice (some ⟨b,o,none⟩) S.length cap∧S.length≤cap∧b < w.heap.size∧StC w b (o+k * 5) (stAt S (k:Int)) vi ve vx∧StHas w vi ve vx (stAt S (k:Int)) :=
 ChHas.st (vt:=.slice none 0 0) (C:=⟨0,S,[]⟩) ⟨h,RowsAt.nil w⟩ hk
theorem HistAt.at {w:World} {v:Value} {H:List Nat} (h:HistAt w v H) {k:Nat} (hk:k < H.length) :
 ∃ (b o cap:Nat),v=.slice (some ⟨b,o,none⟩) H.length cap∧H.length≤cap∧b < w.heap.size∧w.cell? ⟨b,o+k,none⟩=some (.int .u32 (histAt H (k:Int):Int))∧histAt H (k:Int) < 4294967296:=by
 obtain ⟨A,cap,hv,hc,hi⟩:=h
 obtain ⟨b,o,hA,hlt,h0,h1⟩:=hi k _ (List.getElem?_eq_getElem hk)
 have he:histAt H (k:Int)=H[k]:=by unfold histAt; simp [List.getD,List.getElem?_eq_getElem hk]
 rw [he]
 exact ⟨b,o,cap,by rw [hv,hA],hc,hlt,by rwa [Nat.mul_one] at h0,h1⟩
theorem one_list {w:World} {x:Int} (g:Nat) (h:Blk w g 3 #[.int .i64 x]):ListAt w (.slice (some ⟨g,0,none⟩) 1 1) [x]:=by
 refine ⟨_,1,rfl,Nat.le_refl _,fun i y hi=>?_⟩
 have hlt:=(List.getElem?_eq_some_iff.1 hi).1
 simp at hlt
 subst hlt
 simp at hi
 subst hi
 exact ⟨g,0,rfl,h.lt,h.cell 0⟩
theorem LiAt.of_list' {n m g:Nat} {w:World} {x:Int} {c:Nat} (h:ListAt w (.slice (some ⟨g,0,none⟩) 1 c) [x]) (hm:m≤g):LiAt (fun b=>b < n ∨ m≤b) w (.slice (some ⟨g,0,none⟩) 1 c) [x]:=by
 obtain ⟨A,cap,hv,hc,hi⟩:=h
 injection hv with e1 e2 e3
 refine ⟨A,cap,by rw [e1,e3]; rfl,hc,fun i y hy=>?_⟩
 obtain ⟨b,o,h1,h2,h3⟩:=hi i y hy
 rw [h1] at e1
 injection e1 with e1
 injection e1 with e4 e5
 exact ⟨b,o,h1,h2,h3,.inr (by omega)⟩
theorem LiAt.below0 {K:Nat→Prop} {w0 w w':World} {v:Value} {L:List Int} (h:LiAt K w0 v L) (h0:Below w0.heap.size w0 w) (hb:Below w.heap.size w w'):LiAt K w' v L:=(h.below h0).below hb
set_option maxHeartbeats 2000000 in
set_option maxRecDepth 100000 in
theorem sof_any (vs vh:Value) (S:List St) (H:List Nat) (s:Int) (w0 w:World) (hb0:Below w0.heap.size w0 w) (hS0:StsAt w0 vs S) (hH0:HistAt w0 vh H) (hl:S.length≤31) (hHl:H.length≤1000) :
 Calls Tryz.prog 90 #[.agg #[vs,vh],.int .i64 s] w (IntsPost w0.heap.size (ofS S H s) w):=by
 have hS:=hS0.below hb0
 have hH:=hH0.below hb0
 have HBZ:=Lib.hid hb0
 have HS:=Lib.hid hS
 have HH:=Lib.hid hH
 obtain ⟨sA,scap,rfl,hscap⟩:=RowsAt.slice hS
 obtain ⟨hA,hcap,rfl,hhcap⟩:=RowsAt.slice hH
 have HB0:=Lib.hid (below_box w (siBox (.slice sA S.length scap) (.slice hA H.length hcap)))
 have HX0:=Lib.hid (Blk.new w 91 #[.slice sA S.length scap,.slice hA H.length hcap])
 have HA:=Lib.hid (hasS_any (.slice sA S.length scap) (.slice hA H.length hcap) S s (w.alloc (siBox (.slice sA S.length scap) (.slice hA H.length hcap))) (hS.below HB0.out) (by omega))
 cases hs:isSt S s with
 | false =>
  have HR:=Lib.hid (show ofS S H s=[] by unfold ofS; rw [if_pos hs])
  rw [hs] at HA
  clear hb0 hS0 hH0 hS hH hs
  go_enter Tryz.func90,Tryz.ntmps90
  go_wp2_with fail
  refine HA.out.mono ?_
  rintro e w1 ⟨rfl,hb1⟩
  have HB1:=Lib.hid (HB0.out.trans (hb1.mono (by simp)))
  clear hb1
  go_wp2_with fail
  go_ret
  exact ⟨HB1.out,_,rfl,by rw [HR.out]; exact RowsAt.nil _⟩
 | true =>
  obtain ⟨k,rfl,hk⟩:=isSt_nat hs
  rw [hs] at HA
  obtain ⟨b,o,cap,vi,ve,vx,hsl,hcc,hbl0,hst0,hhas⟩:=hS0.st hk
  have hbl:=Nat.lt_of_lt_of_le hbl0 hb0.size
  have hst:=hst0.below hb0 hbl0
  injection hsl with e1 e2 e3
  subst e1; subst e3
  have HST:=Lib.hid hst
  have HHAS:=Lib.hid hhas
  cases hh:histB (stAt S (k:Int)).kind with
  | false =>
   have HR:=Lib.hid (show ofS S H (k:Int)=[(k:Int)] by unfold ofS; rw [if_neg (by rw [hs]; simp),if_pos hh])
   have HHI:=Lib.hid hh
   clear hb0 hS0 hH0 hS hH hs hst hst0 hhas hh
   go_enter Tryz.func90,Tryz.ntmps90
   go_wp2_with fail
   refine HA.out.mono ?_
   rintro e w1 ⟨rfl,hb1⟩
   have HX1:=Lib.hid (HX0.out.below hb1 (by simp))
   have x0:=HX1.out.cell 0
   have x1:=HX1.out.cell 1
   simp at x0 x1
   have HB1:=Lib.hid (HB0.out.trans (hb1.mono (by simp)))
   obtain ⟨c0,c1,c2,c3,c4⟩:=HST.out.below HB1.out hbl
   clear hb1
   go_wp2_with fail
   refine (isHistS_any _ _).mono ?_
   rintro e w2 ⟨rfl,rfl⟩
   rw [HHI.out]
   go_wp2_with fail
   go_ret
   exact ⟨HB1.out.alloc HB1.out.size _,_,rfl,by rw [HR.out]; exact LiAt.of_list' (one_list _ (Blk.new _ 3 _)) HB1.out.size⟩
  | true =>
   have HHI:=Lib.hid hh
   by_cases hz:histAt H (k:Int)=0
   · have HR:=Lib.hid (show ofS S H (k:Int)=(stAt S (k:Int)).ini by unfold ofS; rw [if_neg (by rw [hs]; simp),if_neg (by rw [hh]; simp),if_neg (by rw [hz]; simp)])
     obtain ⟨iA,icap,eA,ecap,xA,xcap,rfl,rfl,rfl⟩:=hhas.slices
     have fin:∀ w1,Below w.heap.size w w1→IntsPost w0.heap.size (ofS S H (k:Int)) w (.returned (.slice iA (stAt S (k:Int)).ini.length icap)) w1:=fun w1 hb=>⟨hb,_,rfl,by rw [HR.out]; exact (LiAt.of_list HHAS.out.1 (fun b h=>.inl h)).below0 HBZ.out hb⟩
     have FIN:=Lib.hid fin
     by_cases hkl:k < H.length
     · obtain ⟨hb,ho,hcap',hv,_,hbl',hc,_⟩:=HH.out.at hkl
       injection hv with e1 e2 e3
       subst e1; subst e3
       rw [hz] at hc
       generalize (stAt S (k:Int)).ini.length=il at *
       clear hb0 hS0 hH0 hS hH hs hst hst0 hhas hh hz fin
       go_enter Tryz.func90,Tryz.ntmps90
       go_wp2_with fail
       refine HA.out.mono ?_
       rintro e w1 ⟨rfl,hb1⟩
       have HX1:=Lib.hid (HX0.out.below hb1 (by simp))
       have x0:=HX1.out.cell 0
       have x1:=HX1.out.cell 1
       simp at x0 x1
       have HB1:=Lib.hid (HB0.out.trans (hb1.mono (by simp)))
       obtain ⟨c0,c1,c2,c3,c4⟩:=HST.out.below HB1.out hbl
       have hc1:=(HB1.out.cell (p:=⟨hb,ho+k,none⟩) hbl').trans hc
       clear hb1 hc
       go_wp2_with fail
       refine (isHistS_any _ _).mono ?_
       rintro e w2 ⟨rfl,rfl⟩
       rw [HHI.out]
       go_wp2_with fail
       go_ret
       exact FIN.out _ HB1.out
     · generalize (stAt S (k:Int)).ini.length=il at *
       clear hb0 hS0 hH0 hS hH hs hst hst0 hhas hh hz fin
       go_enter Tryz.func90,Tryz.ntmps90
       go_wp2_with fail
       refine HA.out.mono ?_
       rintro e w1 ⟨rfl,hb1⟩
       have HX1:=Lib.hid (HX0.out.below hb1 (by simp))
       have x0:=HX1.out.cell 0
       have x1:=HX1.out.cell 1
       simp at x0 x1
       have HB1:=Lib.hid (HB0.out.trans (hb1.mono (by simp)))
       obtain ⟨c0,c1,c2,c3,c4⟩:=HST.out.below HB1.out hbl
       clear hb1
       go_wp2_with fail
       refine (isHistS_any _ _).mono ?_
       rintro e w2 ⟨rfl,rfl⟩
       rw [HHI.out]
       go_wp2_with fail
       go_ret
       exact FIN.out _ HB1.out
   · have HR:=Lib.hid (show ofS S H (k:Int)=memb S (bitN (histAt H (k:Int))) by unfold ofS; rw [if_neg (by rw [hs]; simp),if_neg (by rw [hh]; simp),if_pos hz])
     have hkl:k < H.length:=by
      rcases Nat.lt_or_ge k H.length with h | h
      · exact h
      · exact absurd (by unfold histAt; simp [List.getD,List.getElem?_eq_none h]) hz
     obtain ⟨hb,ho,hcap',hv,_,hbl',hc,hlt'⟩:=HH.out.at hkl
     injection hv with e1 e2 e3
     subst e1; subst e3
     generalize histAt H (k:Int)=h at *
     have hz2:((h:Int) != 0)=true:=bne_iff_ne.2 (by omega)
     have HHLT:=Lib.hid hlt'
     clear hb0 hS0 hH0 hS hH hs hst hst0 hhas hh hz hlt'
     go_enter Tryz.func90,Tryz.ntmps90
     go_wp2_with fail
     refine HA.out.mono ?_
     rintro e w1 ⟨rfl,hb1⟩
     have HX1:=Lib.hid (HX0.out.below hb1 (by simp))
     have x0:=HX1.out.cell 0
     have x1:=HX1.out.cell 1
     simp at x0 x1
     have HB1:=Lib.hid (HB0.out.trans (hb1.mono (by simp)))
     obtain ⟨c0,c1,c2,c3,c4⟩:=HST.out.below HB1.out hbl
     have hc1:=(HB1.out.cell (p:=⟨hb,ho+k,none⟩) hbl').trans hc
     clear hb1 hc
     go_wp2_with fail
     refine (isHistS_any _ _).mono ?_
     rintro e w2 ⟨rfl,rfl⟩
     rw [HHI.out]
     have hc2:=hc1
     have HBD:Hid (Below w.heap.size w w1.drew):=Lib.hid HB1.out.drew
     have HBX:Hid (Blk w1.drew w.heap.size 91 #[.slice (some ⟨b,o,none⟩) S.length scap,.slice (some ⟨hb,ho,none⟩) H.length hcap]):=Lib.hid HX1.out
     have HLT:Hid (hb < w1.drew.heap.size):=Lib.hid (Nat.lt_of_lt_of_le hbl' HB1.out.size)
     go_wp2_with fail
     refine anyD_start (fun W=>W.cell? ⟨w.heap.size,0,none⟩=some (.slice (some ⟨b,o,none⟩) S.length scap)∧W.cell? ⟨w.heap.size,1,none⟩=some (.slice (some ⟨hb,ho,none⟩) H.length hcap)∧W.cell? ⟨hb,ho+k,none⟩=some (.int .u32 (h:Int))) (fun i=>[].contains i) (by kernel_rfl) ?_
     have HSC:Hid (w1.drew.cell? ⟨w.heap.size,0,none⟩=some (.slice (some ⟨b,o,none⟩) S.length scap)∧w1.drew.cell? ⟨w.heap.size,1,none⟩=some (.slice (some ⟨hb,ho,none⟩) H.length hcap)∧w1.drew.cell? ⟨hb,ho+k,none⟩=some (.int .u32 (h:Int))):=Lib.hid ⟨x0,x1,hc2⟩
     refine anyD_l 0 (.agg #[.slice (some ⟨b,o,none⟩) S.length scap,.slice (some ⟨hb,ho,none⟩) H.length hcap]) (HSC.out) ?_
     try simp only [Act.put,sx]
     refine anyD_t 1 (.pointer (some ⟨w.heap.size,1,none⟩)) ?_
     try simp only [Act.put,sx]
     refine anyD_l 2 (.slice (some ⟨hb,ho,none⟩) H.length hcap) (HSC.out) ?_
     try simp only [Act.put,sx]
     refine anyD_t 3 (.int .i64 (k:Int)) ?_
     try simp only [Act.put,sx]
     refine anyD_t 4 (.pointer (some ⟨hb,ho+k,none⟩)) ?_
     try simp only [Act.put,sx]
     refine anyD_l 5 (.int .u32 (h:Int)) (HSC.out) ?_
     try simp only [Act.put,sx]
     refine anyD_one (i:=6) rfl rfl (by kernel_rfl) (fun K HK=>?_)
     go_simp
     refine (members_any _ _ S h _ (HS.out.below HBD.out) (by omega) HHLT.out).mono ?_
     rintro e w3 ⟨hb3,v3,rfl,ho3⟩
     have HB3:=Lib.hid hb3
     have HO3:=Lib.hid ho3
     clear hb3 ho3
     go_simp
     refine HK.out _ _ (fun _ hS=>⟨(HBX.out.below HB3.out HBX.out.lt).cell 0,(HBX.out.below HB3.out HBX.out.lt).cell 1,(HB3.out.cell (p:=⟨hb,ho+k,none⟩) HLT.out).trans hS.2.2⟩) ?_
     clear HK K
     try simp only [Act.put,sx]
     refine anyD_t 7 v3 ?_
     try simp only [Act.put,sx]
     refine anyD_done (by kernel_rfl) ?_
     go_wp2_with fail
     go_ret
     exact ⟨HBD.out.trans (HB3.out.mono HBD.out.size),_,rfl,by rw [HR.out]; exact LiAt.of_own HO3.out (fun b h=>.inr (Nat.le_trans HBD.out.size h))⟩

theorem upsF_none (S:List St) (n:Nat) {q:Int} (h:q < 0):upsF S n q=[]:=by
 cases n with
 | zero=>rfl
 | succ n=>rw [upsF,if_pos h]
theorem ups_len (S:List St):∀ (n:Nat) (p:Int),(upsF S n p).length≤(p+1).toNat
 | 0,p=>by simp [upsF]
 | n+1,p=>by
  rw [upsF]
  by_cases hp:p < 0
  · rw [if_pos hp]; simp
  · rw [if_neg hp,List.length_cons]
    have:=cUp_step S p (by omega)
    have:=ups_len S n (cUp S p)
    omega
theorem ups_short (S:List St) (s:Int):(ups S s).length≤S.length:=by
 have h:=ups_len S (s.toNat+1) (cUp S s)
 have:=cUp_lt S s
 have:=cUp_ge S s
 unfold ups
 omega
set_option maxHeartbeats 1000000 in
set_option maxRecDepth 100000 in
theorem upsT_any (g:Nat) (s:Int) (C:Ch) (w:World) (hT:TreeAt w g C) (hl:C.sts.length≤1000) (hR:Rooted C.sts) :
 Calls Tryz.prog 18 #[.pointer (some ⟨g,0,none⟩),.int .i64 s] w (KPost (ups C.sts s) w):=by
 obtain ⟨i0,hi,hz0,hz1,hz2⟩:=info_parts Tryz.info3
 have HI:=Lib.hid hi
 have HZ0:=Lib.hid hz0
 have HZ1:=Lib.hid hz1
 have HZ2:=Lib.hid hz2
 clear hi hz0 hz1 hz2
 have HA:=Lib.hid (fun (W:World) (h:Below w.heap.size w W) (s:Int)=>parent_any g s C W (hT.below h) hl)
 have HRT:=Lib.hid hR
 have hsh:=ups_short C.sts s
 have h0:ups C.sts s=upsF C.sts (s.toNat+1) (cUp C.sts s):=rfl
 have hge:=cUp_ge C.sts s
 have hle:=cUp_le C.sts s
 have hpos:(cUp C.sts s+1).toNat≤s.toNat+1:=by rcases hle with h | h <;> omega
 have HUP:=Lib.hid (fun q=>cUp_step C.sts q)
 have HGE:=Lib.hid (fun q=>cUp_ge C.sts q)
 generalize ups C.sts s=R at *
 have H0:=Lib.hid h0
 clear h0 hT hle hR
 go_enter Tryz.func18,Tryz.ntmps18
 go_wp2_with fail
 refine (HA.out _ (Below.refl _ _) s).mono ?_
 rintro e w1 ⟨rfl,rfl⟩
 rw [HRT.out s]
 generalize cUp C.sts s=u at *
 go_wp2_with fail
 go_loopw [5,6] (fun v p wr=>∃ (n:Nat) (q:Int) (done:List Int),-1≤q∧(q+1).toNat≤n∧p=.int .i64 q∧Hid (R=done ++ upsF C.sts n q)∧Below w.heap.size w wr∧Hid (wr.ownsRow w.heap.size 3 1 v done.length (intVals done))) (fun _ p _=>(intOf p+1).toNat)
 case atStart=>exact ⟨s.toNat+1,u,[],hge,hpos,rfl,by rw [H0.out]; exact Lib.hid rfl,Below.refl _ _,Lib.hid (World.ownsRow_nil _ _ _ _)⟩
 case round =>
  obtain ⟨n,q,done,hq1,hn,rfl,HR,hb,hown⟩:=hrel
  have HB:=Lib.hid hb
  clear hb
  by_cases hq:q=-1
  · have hR:=HR.out
    rw [upsF_none C.sts n (by omega),List.append_nil] at hR
    have HRR:=Lib.hid hR
    subst hq
    clear hR
    go_wp2_with fail
    go_ret
    exact ⟨HB.out,_,rfl,by rw [HRR.out]; exact hown.out⟩
  · obtain ⟨m,rfl⟩:∃ m,n=m+1:=⟨n - 1,by omega⟩
    have hR:=HR.out
    rw [upsF,if_neg (by omega),List.append_cons] at hR
    have hdl:done.length≤1000:=by have:=congrArg List.length hR; simp at this; omega
    have HRR:=Lib.hid hR
    have hq2:(q != -1)=true:=by simpa using hq
    have hst:=HUP.out q (by omega)
    have hg2:=HGE.out q
    have hbs:=HB.out.size
    clear hR
    go_wp2_with (at_builtin; refine wpList_append_own_at _ rfl _ _ 36 rfl (w.heap.size) 3 i0 (.int .i64 0) 1 8 Tryz.underlying36 HI.out HZ0.out HZ1.out HZ2.out rfl (by decide) _ _ _ rfl (hown.out.alloc _) ⟨wr.heap.size,0,none⟩ 1 1 [.int .i64 q] rfl rfl ?c1 ?c2 ?c3 ?c4 ?c5 ?_)
    case c1=>exact new_val _ _ _ _ (by simp)
    case c2=>exact int_one _
    case c3=>unfold maxLen; omega
    case c4=>omega
    case c5=>simp; omega
    intro v' w2 hown' hgrow _ _
    have HG:=Lib.hid (Below.grown (HB.out.alloc HB.out.size _) hgrow (by simp; omega) (fun g hg=>by have:=(hown.out.lt g hg).1; simpa using this))
    have HO':=Lib.hid hown'
    clear hown' hgrow
    go_wp2_with fail
    refine (HA.out _ HG.out q).mono ?_
    rintro e w3 ⟨rfl,rfl⟩
    rw [HRT.out q]
    generalize cUp C.sts q=u2 at *
    go_wp2
    go_roundw
    case rel=>exact ⟨m,u2,done ++ [q],hg2,by omega,rfl,HRR,HG.out,Lib.hid (by rw [intVals_snoc]; simpa using HO'.out)⟩
    case measure=>simp [intOf]; omega
theorem bset_test (P:Nat→Bool) (n i:Nat):(bset P n).testBit i=(decide (i < n) && P i):=by
 by_cases h:i < n
 · rw [Nat.testBit_eq_decide_div_mod_eq,bset_bit P n i h]
   cases P i <;> simp [h]
 · rw [Nat.testBit_lt_two_pow (Nat.lt_of_lt_of_le (bset_lt P n) (Nat.pow_le_pow_right (by decide) (by omega)))]
   simp [h]
theorem bset_add (P:Nat→Bool) (n k:Nat) (hk:k < n):bset P n ||| 2 ^ k=bset (addS P (k:Int)) n:=by
 refine Nat.eq_of_testBit_eq fun i=>?_
 rw [Nat.testBit_or,bset_test,bset_test,Nat.testBit_two_pow]
 unfold addS
 by_cases hi:k=i
 · subst hi; simp [hk]
 · have:¬ ((i:Int)=(k:Int)):=by omega
   simp [hi,this]
theorem bset_and (P Q:Nat→Bool) (n:Nat):bset P n &&& bset Q n=bset (fun x=>P x && Q x) n:=by
 refine Nat.eq_of_testBit_eq fun i=>?_
 rw [Nat.testBit_and,bset_test,bset_test,bset_test]
 cases decide (i < n) <;> cases P i <;> cases Q i <;> rfl
theorem bset_zero (P:Nat→Bool) (n:Nat):bset P n=0 ↔ ((List.range n).any P)=false:=by
 constructor
 · intro h
   rw [List.any_eq_false]
   intro i hi
   have:=bset_test P n i
   rw [h] at this
   have hlt:=List.mem_range.1 hi
   simp [hlt] at this
   simp [this]
 · intro h
   rw [List.any_eq_false] at h
   refine Nat.eq_of_testBit_eq fun i=>?_
   rw [bset_test,Nat.zero_testBit]
   by_cases hi:i < n
   · have:=h i (List.mem_range.2 hi)
     simp at this
     simp [this]
   · simp [hi]
theorem bset_u32 (P:Nat→Bool) {n:Nat} (hn:n≤31):bset P n < 4294967296:=Nat.lt_of_lt_of_le (bset_lt P n) (Nat.pow_le_pow_right (n:=2) (by decide) (show n≤32 by omega))
theorem or_add (P:Nat→Bool) (n k:Nat) (hn:n≤31) (hk:k < n):bits .or .u32 ((bset P n:Nat):Int) ((2:Int) ^ k)=((bset (addS P (k:Int)) n:Nat):Int):=by
 have h1:2 ^ k < 2 ^ 32:=Nat.pow_lt_pow_right (by decide) (by omega)
 have h2:((2:Int) ^ k)=((2 ^ k:Nat):Int):=by simp
 rw [h2,(bits_nat .u32 32 (by decide) wrap_u32 _ _ (bset_u32 P hn) h1).2,bset_add P n k hk]
theorem bset_memb (S:List St) (P:Nat→Bool):memb S (bitN (bset P S.length))=membU P S.length:=by
 unfold memb membU
 congr 1
 refine List.filter_congr fun i hi=>?_
 have hlt:=List.mem_range.1 hi
 unfold bitN
 rw [bset_bit P _ i hlt]
 cases P i <;> simp
theorem and_test (P:Nat→Bool) (n k:Nat) (hn:n≤31) (hk:k < n):(bits .and .u32 ((bset P n:Nat):Int) ((2:Int) ^ k) == 0)=!P k∧(bits .and .u32 ((bset P n:Nat):Int) ((2:Int) ^ k) != 0)=P k:=by
 have hb:bitN (bset P n) k=P k:=by
  unfold bitN
  rw [bset_bit P n k hk]
  cases P k <;> simp
 have hpw:¬ ((2:Int) ^ k=0):=by
  have h2:((2:Int) ^ k)=((2 ^ k:Nat):Int):=by simp
  rw [h2]
  have:=Nat.pow_pos (n:=k) (show 0 < 2 by decide)
  omega
 rw [and_bit _ k (bset_u32 P hn) (by omega),hb]
 cases P k
 · exact ⟨rfl,rfl⟩
 · rw [if_pos rfl]
   exact ⟨beq_false_of_ne hpw,bne_iff_ne.2 hpw⟩
set_option maxHeartbeats 1000000 in
set_option maxRecDepth 100000 in
theorem tkids_any (g:Nat) (s:Int) (C:Ch) (w:World) (hT:TreeAt w g C) (hl:C.sts.length≤31) (hs:isSt C.sts s=true) :
 Calls Tryz.prog 26 #[.pointer (some ⟨g,0,none⟩),.int .i64 s] w fun e w'=>e=.returned (.int .u32 ((bset (kidB C.sts s) C.sts.length:Nat):Int))∧Below w.heap.size w w':=by
 have HH:=Lib.hid (has_any g s C w hT (by omega))
 rw [hs] at HH
 obtain ⟨vs,vt,hX,hC⟩:=hT
 have HK:=Lib.hid (kids_any C.vars s vs vt C w hC (by omega))
 obtain ⟨⟨x0,x1,x2⟩,-⟩:=hX.facts3
 clear hX hC hs
 go_enter Tryz.func26,Tryz.ntmps26
 go_wp2_with fail
 refine HH.out.mono ?_
 rintro e w1 ⟨rfl,rfl⟩
 go_wp2_with fail
 refine HK.out.mono ?_
 rintro e w1 ⟨hb1,v,rfl,ho1⟩
 have hL:=list_of_own ho1
 have hkl:(kids C.sts s).length≤31:=Nat.le_trans (kidsU_len C.sts s _) hl
 have hmem:∀ x ∈ kids C.sts s,isSt C.sts x=true:=fun x hx=>(kids_mem.1 hx).1
 have hbit:∀ k,k < C.sts.length→((k:Int) ∈ kids C.sts s ↔ kidB C.sts s k=true):=fun k hk=>by
  unfold kids kidsU
  rw [List.mem_map]
  constructor
  · rintro ⟨j,hj,he⟩
    obtain rfl:j=k:=by omega
    exact (List.mem_filter.1 hj).2
  · intro h
    exact ⟨k,List.mem_filter.2 ⟨List.mem_range.2 hk,h⟩,rfl⟩
 have hfin:bset (fun k:Nat=>decide ((k:Int) ∈ (kids C.sts s).take (kids C.sts s).length)) C.sts.length=bset (kidB C.sts s) C.sts.length:=by
  refine Nat.eq_of_testBit_eq fun i=>?_
  rw [bset_test,bset_test,List.take_length]
  by_cases hi:i < C.sts.length
  · have:=hbit i hi
    cases hk:kidB C.sts s i with
    | true=>simp [hi,this.2 hk]
    | false=>simp [hi]; intro h; rw [this.1 h] at hk; cases hk
  · simp [hi]
 have HFIN:=Lib.hid hfin
 have HB1:=Lib.hid hb1
 have HMEM:=Lib.hid hmem
 generalize kids C.sts s=L at *
 obtain ⟨A,cap,rfl,hcap,he⟩:=hL
 have HE:=Lib.hid he
 clear ho1 he x0 x1 x2 hb1 hmem hbit hfin HK HH
 go_wp2_with fail
 go_loopw [5,19] (fun v i wr=>∃ k:Nat,k≤L.length∧i=.int .i64 (k:Int)∧v=.int .u32 ((bset (fun j:Nat=>decide ((j:Int) ∈ L.take k)) C.sts.length:Nat):Int)∧wr=w1) (fun _ i _=>L.length - (intOf i).toNat)
 case atStart =>
  refine ⟨0,Nat.zero_le _,rfl,?_,rfl⟩
  have:bset (fun j:Nat=>decide ((j:Int) ∈ L.take 0)) C.sts.length=0:=(bset_zero _ _).2 (by rw [List.any_eq_false]; intro x _; simp)
  rw [this]
  rfl
 case round =>
  obtain ⟨k,hk,rfl,rfl,rfl⟩:=hrel
  by_cases hlt:k < L.length
  · obtain ⟨b,o,rfl,hbl,hc⟩:=HE.out k _ (List.getElem?_eq_getElem hlt)
    have c0:wr.cell? ⟨b,o+k,none⟩=some (.int .i64 L[k]):=by have:=hc; unfold IntAt at this; rwa [Nat.mul_one] at this
    obtain ⟨j,hj,hjl⟩:=isSt_nat (HMEM.out L[k] (List.getElem_mem hlt))
    have hor:=or_add (fun j:Nat=>decide ((j:Int) ∈ L.take k)) C.sts.length j hl hjl
    have hnext:addS (fun j:Nat=>decide ((j:Int) ∈ L.take k)) (j:Int)=fun j:Nat=>decide ((j:Int) ∈ L.take (k+1)):=by
     funext i
     unfold addS
     rw [List.take_succ_eq_append_getElem hlt,hj]
     rw [Bool.eq_iff_iff]
     simp
    rw [hnext] at hor
    rw [hj] at c0
    have HOR:=Lib.hid hor
    generalize bset (fun j:Nat=>decide ((j:Int) ∈ L.take k)) C.sts.length=B at *
    clear hc hor hnext hj
    go_wp2_with fail
    refine (bit_any j (by omega) _).mono ?_
    rintro e w1 ⟨rfl,rfl⟩
    go_wp2_with fail
    go_roundw
    case rel=>exact ⟨k+1,by omega,by go_num,by rw [← HOR.out],trivial⟩
    case measure=>simp [intOf]; omega
  · obtain rfl:k=L.length:=by omega
    go_wp2_with fail
    go_ret
    exact ⟨ret_int (by rw [HFIN.out]),HB1.out⟩

theorem realIn_mem {acc:List Int} {x y:Int}:y ∈ realIn acc x ↔ y ∈ acc ∨ y=x:=by
 unfold realIn
 split
 · rename_i h
   constructor
   · exact .inl
   · rintro (h1 | rfl)
     · exact h1
     · simpa using h
 · simp
def seenN (acc:List Int) (n:Nat):Nat:=bset (fun k:Nat=>decide ((k:Int) ∈ acc)) n
theorem seen_add (acc:List Int) (n j:Nat):addS (fun k:Nat=>decide ((k:Int) ∈ acc)) (j:Int)=fun k:Nat=>decide ((k:Int) ∈ realIn acc (j:Int)):=by
 funext k
 unfold addS
 rw [Bool.eq_iff_iff]
 simp [realIn_mem]
theorem seen_old {acc:List Int} {n j:Nat} (hn:n≤31) (hj:j < n) (h:acc.contains (j:Int)=true):(bits .and .u32 ((seenN acc n:Nat):Int) ((2:Int) ^ j) == 0)=false:=by
 have:=(and_test (fun k:Nat=>decide ((k:Int) ∈ acc)) n j hn hj).1
 unfold seenN
 rw [this]
 simpa using h
theorem seen_new {acc:List Int} {n j:Nat} (hn:n≤31) (hj:j < n) (h:acc.contains (j:Int)=false):(bits .and .u32 ((seenN acc n:Nat):Int) ((2:Int) ^ j) == 0)=true:=by
 have:=(and_test (fun k:Nat=>decide ((k:Int) ∈ acc)) n j hn hj).1
 unfold seenN
 rw [this]
 simpa using h
theorem seen_or {acc:List Int} {n j:Nat} (hn:n≤31) (hj:j < n):bits .or .u32 ((seenN acc n:Nat):Int) ((2:Int) ^ j)=((seenN (realIn acc (j:Int)) n:Nat):Int):=by
 have:=or_add (fun k:Nat=>decide ((k:Int) ∈ acc)) n j hn hj
 unfold seenN
 rw [this,seen_add acc n j]
theorem realIn_old {acc:List Int} {x:Int} (h:acc.contains x=true):realIn acc x=acc:=by unfold realIn; rw [if_pos h]
theorem realIn_new {acc:List Int} {x:Int} (h:acc.contains x=false):realIn acc x=acc ++ [x]:=by unfold realIn; rw [if_neg (by rw [h]; simp)]
theorem drop_fold {α β:Type} (G:β→α→β) (l:List α) (k:Nat) (h:k < l.length) (b:β):(l.drop k).foldl G b=(l.drop (k+1)).foldl G (G b l[k]):=by
 rw [List.drop_eq_getElem_cons h,List.foldl_cons]
set_option maxHeartbeats 4000000 in
set_option maxRecDepth 100000 in
theorem real_any (vs vh vl:Value) (S:List St) (H:List Nat) (l:List Int) (w:World) (hS:StsAt w vs S) (hH:HistAt w vh H) (hv:ListAt w vl l) (hl:S.length≤31) (hHl:H.length≤1000) (hll:l.length≤1000)
 (hV:∀ s,(ofS S H s).length≤31∧∀ x ∈ ofS S H s,isSt S x=true) :
 Calls Tryz.prog 48 #[.agg #[vs,vh],vl] w (KPost (realS S H l) w):=by
 obtain ⟨i0,hi,hz0,hz1,hz2⟩:=info_parts Tryz.info3
 have HI:=Lib.hid hi
 have HZ0:=Lib.hid hz0
 have HZ1:=Lib.hid hz1
 have HZ2:=Lib.hid hz2
 clear hi hz0 hz1 hz2
 have HOF:=Lib.hid (fun (W:World) (h:Below w.heap.size w W) (s:Int)=>sof_any vs vh S H s w W h hS hH hl hHl)
 have HVV:=Lib.hid hV
 have HX0:=Lib.hid (Blk.new w 91 #[vs,vh])
 obtain ⟨sA,scap,rfl,hscap⟩:=RowsAt.slice hS
 obtain ⟨hA,hcap,rfl,hhcap⟩:=RowsAt.slice hH
 obtain ⟨A,cap,rfl,hlcap,he⟩:=hv
 have HE:=Lib.hid he
 have HR:Hid (realS S H l=l.foldl (fun acc s=>(ofS S H s).foldl realIn acc) []):=Lib.hid rfl
 generalize realS S H l=R at *
 clear he hS hH hV
 go_enter Tryz.func48,Tryz.ntmps48
 go_wp2_with fail
 go_loopw [5,6,13] (fun v sn i wr=>∃ (k:Nat) (acc:List Int),k≤l.length∧acc.length≤k * 31∧i=.int .i64 (k:Int)∧sn=.int .u32 ((seenN acc S.length:Nat):Int)∧Hid (R=(l.drop k).foldl (fun acc s=>(ofS S H s).foldl realIn acc) acc)∧Below (w.alloc (siBox (.slice sA S.length scap) (.slice hA H.length hcap))).heap.size (w.alloc (siBox (.slice sA S.length scap) (.slice hA H.length hcap))) wr∧Hid (wr.ownsRow (w.heap.size+1) 3 1 v acc.length (intVals acc))) (fun _ _ i _=>l.length - (intOf i).toNat)
 case atStart =>
  refine ⟨0,[],Nat.zero_le _,Nat.zero_le _,rfl,?_,HR,Below.refl _ _,Lib.hid (World.ownsRow_nil _ _ _ _)⟩
  have:seenN [] S.length=0:=(bset_zero _ _).2 (by rw [List.any_eq_false]; intro x _; simp)
  rw [this]
  rfl
 case round =>
  clear HR
  obtain ⟨k,acc,hk,hal,rfl,rfl,HR,hb,hown⟩:=hrel
  obtain ⟨wo,rfl⟩:∃ wo:World,wo=wr:=⟨_,rfl⟩
  have HB:=Lib.hid hb
  by_cases hlt:k < l.length
  · obtain ⟨b,o,rfl,hbl,hc⟩:=HE.out k _ (List.getElem?_eq_getElem hlt)
    have c0:wo.cell? ⟨b,o+k,none⟩=some (.int .i64 l[k]):=by have:=IntAt.keeps w wo b _ _ (below_boxed hb) hbl hc; rwa [Nat.mul_one] at this
    have hX:=HX0.out.below hb (by simp)
    have x0:=hX.cell 0
    have x1:=hX.cell 1
    simp at x0 x1
    have HRK:=Lib.hid (HR.out.trans (drop_fold _ l k hlt acc))
    have HO:=Lib.hid (HOF.out wo (below_boxed hb) l[k])
    have hML:=(HVV.out l[k]).1
    have HMV:=Lib.hid (HVV.out l[k]).2
    generalize l[k]=s at *
    generalize ofS S H s=M at *
    have hvo:∀ g,u5.ownBlock=some g→w.heap.size+1≤g∧g < wo.heap.size:=fun g h=>hown.out.lt g h
    have HVO:=Lib.hid hvo
    clear hc hX hvo hb
    go_wp2_with fail
    refine HO.out.mono ?_
    rintro e w1 ⟨hb1,v1,rfl,hL1⟩
    have HB1:=Lib.hid (HB.out.trans (hb1.mono HB.out.size))
    have HOW1:=Lib.hid (own_below hown.out hb1)
    have HM1:Hid (LiAt (fun b=>some b ≠ u5.ownBlock) w1 v1 M):=Lib.hid (hL1.mono fun b hb hc=>by
     intro he
     have:=HVO.out b he.symm
     omega)
    obtain ⟨mA,mcap,hmv,hmc⟩:=RowsAt.slice hL1
    subst hmv
    clear hb1 hL1 hown HVO x0 x1 HO
    go_wp2_with fail
    go_loopw [5,6,21] (fun v sn i wr=>∃ (m:Nat) (acc:List Int),m≤M.length∧acc.length≤k * 31+m∧i=.int .i64 (m:Int)∧sn=.int .u32 ((seenN acc S.length:Nat):Int)∧Hid (R=(l.drop (k+1)).foldl (fun acc s=>(ofS S H s).foldl realIn acc) ((M.drop m).foldl realIn acc))∧Below (w.alloc (siBox (.slice sA S.length scap) (.slice hA H.length hcap))).heap.size (w.alloc (siBox (.slice sA S.length scap) (.slice hA H.length hcap))) wr∧Hid (wr.ownsRow (w.heap.size+1) 3 1 v acc.length (intVals acc))∧Hid (LiAt (fun b=>some b ≠ v.ownBlock) wr (.slice mA M.length mcap) M)) (fun _ _ i _=>M.length - (intOf i).toNat)
    case atStart=>exact ⟨0,acc,Nat.zero_le _,hal,rfl,rfl,HRK,HB1.out,HOW1,HM1⟩
    case round =>
     clear HRK HB1 HOW1 HM1 HR HB hal
     obtain ⟨m,acc',hm,hal,rfl,rfl,HR,hb,hown,HM⟩:=hrel
     have HB:=Lib.hid hb
     have hbs:w.heap.size+1≤wr.heap.size:=by have:=hb.size; simpa using this
     clear hb
     by_cases hlt2:m < M.length
     · obtain ⟨mb,mo,hmA,hmbl,hmc0,hmne⟩:=(let ⟨_,_,h1,_,h3⟩:=HM.out; by injection h1 with e1 e2 e3; subst e1; exact h3 m _ (List.getElem?_eq_getElem hlt2):∃ b o,mA=some ⟨b,o,none⟩∧b < wr.heap.size∧(IntAt wr b (o+m * 1) M[m])∧some b ≠ _)
       subst hmA
       have d0:wr.cell? ⟨mb,mo+m,none⟩=some (.int .i64 M[m]):=by have:=hmc0; unfold IntAt at this; rwa [Nat.mul_one] at this
       obtain ⟨j,hj,hjl⟩:=isSt_nat (HMV.out M[m] (List.getElem_mem hlt2))
       have HRM:=Lib.hid (HR.out.trans (congrArg (fun z=>(l.drop (k+1)).foldl (fun acc s=>(ofS S H s).foldl realIn acc) z) (drop_fold _ M m hlt2 acc')))
       rw [hj] at d0 HRM
       clear hmc0 hj
       cases hcn:acc'.contains (j:Int) with
       | true =>
        have hz:=seen_old hl hjl hcn
        rw [realIn_old hcn] at HRM
        clear hcn
        go_wp2_with fail
        refine (bitS_any j (by omega) _).mono ?_
        rintro e w2 ⟨rfl,rfl⟩
        go_wp2_with fail
        go_roundw
        case rel=>exact ⟨m+1,acc',by omega,by omega,by go_num,rfl,HRM,HB.out,hown,HM⟩
        case measure=>simp [intOf]; omega
       | false =>
        have hz:=seen_new hl hjl hcn
        have HOR:=Lib.hid (seen_or (acc:=acc') hl hjl)
        rw [realIn_new hcn] at HRM HOR
        clear hcn
        go_wp2_with fail
        refine (bitS_any j (by omega) _).mono ?_
        rintro e w2 ⟨rfl,rfl⟩
        go_wp2_with fail
        refine (bitS_any j (by omega) _).mono ?_
        rintro e w2 ⟨rfl,rfl⟩
        go_wp2_with (at_builtin; refine wpList_append_own_at _ rfl _ _ 36 rfl (w.heap.size+1) 3 i0 (.int .i64 0) 1 8 Tryz.underlying36 HI.out HZ0.out HZ1.out HZ2.out rfl (by decide) _ _ _ rfl (hown.out.alloc _) ⟨wr.heap.size,0,none⟩ 1 1 [.int .i64 (j:Int)] rfl rfl ?c1 ?c2 ?c3 ?c4 ?c5 ?_)
        case c1=>exact new_val _ _ _ _ (by simp)
        case c2=>exact int_one _
        case c3=>unfold maxLen; omega
        case c4=>omega
        case c5=>simp; omega
        intro v' w2 hown' hgrow _ hat
        have HG:=Lib.hid (Below.grown (HB.out.alloc HB.out.size _) hgrow (by simp; omega) (fun g hg=>by have:=(hown.out.lt g hg).1; simpa using this))
        have HO':=Lib.hid hown'
        have HM2:Hid (LiAt (fun b=>some b ≠ v'.ownBlock) w2 (.slice (some ⟨mb,mo,none⟩) M.length mcap) M):=Lib.hid (((((HM.out.mono fun b hb hc=>(⟨hb,hc⟩:b < wr.heap.size∧some b ≠ _)).below (below_box wr _)).grown hgrow fun b _ hc=>hc.2).mono fun b _ hc=>by
         rcases hat with h | h
         · rw [h]; exact hc.2
         · rw [h]; intro he; injection he with he; have:=hc.1; have h3:(wr.alloc (.cells #[.int .i64 (j:Int)] 3)).heap.size=wr.heap.size+1:=by simp
           omega))
        clear hown' hgrow hat
        go_wp2
        go_roundw
        case rel=>exact ⟨m+1,acc' ++ [(j:Int)],by omega,by simp; omega,by go_num,by rw [HOR.out],HRM,HG.out,Lib.hid (by rw [intVals_snoc]; simpa using HO'.out),HM2⟩
        case measure=>simp [intOf]; omega
     · obtain rfl:m=M.length:=by omega
       have HRM:=HR.out
       rw [List.drop_length] at HRM
       have HRN:=Lib.hid HRM
       clear HRM
       go_wp2
       go_roundw
       case rel=>exact ⟨k+1,acc',by omega,by omega,by go_num,rfl,HRN,HB.out,hown⟩
       case measure=>simp [intOf]; omega
  · obtain rfl:k=l.length:=by omega
    have hR:=HR.out
    rw [List.drop_length] at hR
    have HRR:=Lib.hid hR
    clear hR
    go_wp2_with fail
    go_ret
    exact ⟨below_boxed hb,_,rfl,by rw [HRR.out]; exact own_lower hown.out (by omega)⟩
theorem field_ch1 (a b c:Value) (w:World):Sem.run Tryz.prog (Instr.field 25 (.agg #[a,b,c]) 1) w=.ok b w:=by
 unfold Instr.field
 have h:=Tryz.underlying25
 simp [go_sem,asAgg]
theorem load_si {w:World} {g:Nat} {a b:Value} (hB:Blk w g 91 #[a,b]):(loadVar 91 ⟨g,0,none⟩).run Tryz.prog w=.ok (.agg #[a,b]) w:=run_loadVar_row (P:=Tryz.prog) w g 91 91 _ (0,0) _ hB Tryz.underlying91 rfl (by kernel_rfl)
set_option maxHeartbeats 1000000 in
set_option maxRecDepth 100000 in
theorem standIns_any (g:Nat) (hA:Option Addr) (hn hcap:Nat) (C:Ch) (w:World) (hT:TreeAt w g C) (hF:fewB C=true) :
 Calls Tryz.prog 46 #[.pointer (some ⟨g,0,none⟩),.slice hA hn hcap] w fun e w'=>Below w.heap.size w w'∧∃ vs,e=.returned (.agg #[vs,.slice hA hn hcap])∧StsAt w' vs C.sts:=by
 have HY:=Lib.hid (Blk.new w 91 #[.slice none 0 0,.slice none 0 0])
 have HC:=Lib.hid (chartT_any g C _ (hT.below (below_box w (siBox (.slice none 0 0) (.slice none 0 0)))) hF)
 clear hT
 go_enter Tryz.func46,Tryz.ntmps46
 go_wp2_with fail
 refine HC.out.mono ?_
 rintro e w1 ⟨hb1,us,ut,rfl,ho1⟩
 obtain ⟨uA,ucap,rA,rcap,rfl,rfl⟩:=ho1.has.slices
 have HY1:=Lib.hid (HY.out.below hb1 HY.out.lt)
 have HB1:=Lib.hid (below_boxed hb1)
 have HO1:=Lib.hid (ho1.lower (B':=w.heap.size) (by simp))
 have y0:=HY1.out.cell 0
 have y1:=HY1.out.cell 1
 have z0:=HY1.out.frozen 0
 have z1:=HY1.out.frozen 1
 simp at y0 y1
 have hfd:=fun W=>field_ch1 (.int .i64 C.vars) (.slice uA C.sts.length ucap) (.slice rA C.trs.length rcap) W
 clear hb1 ho1
 go_wp2_with fail
 refine bodyPost_ret (results_own rfl _ _ _ rfl (load_si ((HY1.out.set_ 0 _).set_ 1 _))) rfl ?_
 have q1:=HY1.out.set_ 0 (.slice uA C.sts.length ucap)
 exact ⟨(HB1.out.setCell (p:=⟨w.heap.size,0,none⟩) (Nat.le_refl _) _).setCell (p:=⟨w.heap.size,1,none⟩) (Nat.le_refl _) _,_,rfl,
  ((HO1.out.apart HY1.out (by decide) (by decide) (by decide) (by decide) 0 (.slice uA C.sts.length ucap)).apart q1 (by decide) (by decide) (by decide) (by decide) 1 (.slice hA hn hcap)).has.1⟩
end Go.Proofs.YtmhkpjcdkjnlnaaGreatDoor
