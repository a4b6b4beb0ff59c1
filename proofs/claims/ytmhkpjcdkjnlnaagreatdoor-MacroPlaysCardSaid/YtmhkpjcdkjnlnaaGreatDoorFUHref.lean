/- The contracts of choose's firstReady and Gather. -/
import Derived.Test.YtmhkpjcdkjnlnaaGreatDoorFUHrd
import Derived.Test.YtmhkpjcdkjnlnaaGreatDoorFUCact
import Derived.Test.YtmhkpjcdkjnlnaaGreatDoorFUPlev
import Derived.Deep.RegionWith
import Derived.Test.YtmhkpjcdkjnlnaaGreatDoorFUTmay
import Derived.Test.YtmhkpjcdkjnlnaaGreatDoorFUZlaid
namespace Go.Proofs.YtmhkpjcdkjnlnaaGreatDoor
open Go.ChangeShapes Go.WideShapes Go.ChangeAt Go.RowKit
set_option linter.unusedVariables false

def frK (env:List Int) (ev:Int) (R:List Tr) (l:List Int) (y:Int × Nat):Int × Nat:=if y.1=-1 then frA env ev R l y.2 else y
theorem frA_cons (env:List Int) (ev:Int) (R:List Tr) (s:Int) (l:List Int) (n:Nat):frA env ev R (s :: l) n=frK env ev R l (frS env ev s R 0 n):=rfl
theorem frK_none (env:List Int) (ev:Int) (R:List Tr) (l:List Int) (n:Nat):frK env ev R l (-1,n)=frA env ev R l n:=rfl
theorem frK_some (env:List Int) (ev:Int) (R:List Tr) (l:List Int) (k n:Nat):frK env ev R l ((k:Int),n)=((k:Int),n):=by
 unfold frK
 rw [if_neg (by simp only; omega)]
set_option maxHeartbeats 4000000 in
set_option maxRecDepth 100000 in
theorem firstReady_any (v u ve:Value) (l:List Int) (ev:Int) (C:Ch) (env:List Int) (w:World) (hL:Laid w) (hT:TrsAt w v C.trs) (hF:fewB C=true) (hl:ListAt w u l) (hll:l.length≤1000) (hE:NumsAt w ve env) (hel:env.length≤1000) (hef:∀ x ∈ env,F64 x) :
 Calls Tryz.prog 124 #[v,u,ve,.int .i64 ev] w fun e w'=>e=.returned (.tuple #[.int .i64 (frA env ev C.trs l 0).1,.int .i64 ((frA env ev C.trs l 0).2:Int)])∧Below w.heap.size w w':=by
 have hl60:C.trs.length≤60:=(few_parts hF).2.1
 have HIR:=Lib.hid (fun (k:Nat) (hk:k < C.trs.length) (W:World) (h:Below w.heap.size w W) (vt va:Value)=>isReady_any (trAt C.trs (k:Int)) vt va ve env ev W (hL.after h) (by have:=few_guard hF hk; omega) (hE.below h) hel hef)
 have HT:=Lib.hid hT
 obtain ⟨tA,tcap,rfl,htcap⟩:=RowsAt.slice hT
 obtain ⟨A,cap,rfl,hcap,he⟩:=hl
 have HE:=Lib.hid he
 have H0:Hid (frA env ev C.trs l 0=frA env ev C.trs l 0):=Lib.hid rfl
 have HX:∃ X,X=frA env ev C.trs l 0:=⟨_,rfl⟩
 obtain ⟨X,hX⟩:=HX
 rw [← hX]
 have HX:=Lib.hid hX
 clear hL hF hT hE hef he hX H0
 go_enter Tryz.func124,Tryz.ntmps124
 go_wp2_with fail
 go_loopw [10,19] (fun v i wr=>∃ k n:Nat,k≤l.length∧n≤k * 60∧i=.int .i64 (k:Int)∧v=.int .i64 (n:Int)∧Hid (X=frA env ev C.trs (l.drop k) n)∧Below w.heap.size w wr) (fun _ i _=>l.length - (intOf i).toNat)
 case atStart=>exact ⟨0,0,Nat.zero_le _,Nat.zero_le _,rfl,rfl,HX,Below.refl _ _⟩
 case round =>
  clear HX
  obtain ⟨k,n,hk,hn,rfl,rfl,HX,hb⟩:=hrel
  obtain ⟨wo,rfl⟩:∃ wo:World,wo=wr:=⟨_,rfl⟩
  have HB:=Lib.hid hb
  by_cases hlt:k < l.length
  · obtain ⟨b,o,rfl,hbl,hc⟩:=HE.out k _ (List.getElem?_eq_getElem hlt)
    have c0:wo.cell? ⟨b,o+k,none⟩=some (.int .i64 l[k]):=by have:=IntAt.keeps w wo b _ _ hb hbl hc; rwa [Nat.mul_one] at this
    have HX2:Hid (X=frK env ev C.trs (l.drop (k+1)) (frS env ev l[k] C.trs 0 n)):=Lib.hid (by rw [HX.out,List.drop_eq_getElem_cons hlt,frA_cons])
    generalize l[k]=s at *
    clear hc hb HX
    go_wp2_with fail
    go_loopw [10,25] (fun v i wr=>∃ j m:Nat,j≤C.trs.length∧m≤k * 60+j∧i=.int .i64 (j:Int)∧v=.int .i64 (m:Int)∧Hid (X=frK env ev C.trs (l.drop (k+1)) (frS env ev s (C.trs.drop j) j m))∧Below w.heap.size w wr) (fun _ i _=>C.trs.length - (intOf i).toNat)
    case atStart=>exact ⟨0,n,Nat.zero_le _,by omega,rfl,rfl,HX2,HB.out⟩
    case round =>
     clear HX2 HB c0
     obtain ⟨j,m,hj,hm,rfl,rfl,HX,hb⟩:=hrel
     obtain ⟨wo,rfl⟩:∃ wo:World,wo=wr:=⟨_,rfl⟩
     have HB:=Lib.hid hb
     by_cases hlt2:j < C.trs.length
     · obtain ⟨b2,o2,cap2,wt,wa,hsl,_,hbl2,hst,hhas⟩:=HT.out.at_ hlt2
       injection hsl with e1 e2 e3
       subst e1
       obtain ⟨c0,c1,c2,c3,c4,c5⟩:=hst.below hb hbl2
       have HIR2:=Lib.hid (HIR.out j hlt2)
       have htr:C.trs[j]=trAt C.trs (j:Int):=by
        have:=trAt_nat hlt2
        rw [List.getElem?_eq_getElem hlt2] at this
        injection this
       have HX2:Hid (X=frK env ev C.trs (l.drop (k+1)) (frS env ev s (trAt C.trs (j:Int) :: C.trs.drop (j+1)) j m)):=Lib.hid (by rw [HX.out,List.drop_eq_getElem_cons hlt2,htr])
       generalize trAt C.trs (j:Int)=T at *
       obtain ⟨aA,acap,bA,bcap,rfl,rfl⟩:=hhas.slices
       obtain ⟨src,e0,guard,tgts,inner,acts⟩:=T
       simp only at c0 c1 c2 c3 c4 c5
       have HBA:=Lib.hid (hb.trans ((below_box wo (trBox ⟨src,e0,guard,tgts,inner,acts⟩ (.slice aA tgts.length acap) (.slice bA acts.length bcap))).mono hb.size))
       have HIR3:=Lib.hid (HIR2.out _ HBA.out (.slice aA tgts.length acap) (.slice bA acts.length bcap))
       clear hst hhas hb HX HIR2 htr e3 e2
       by_cases hs:src=s
       · have hsb:(src != s)=false:=by simp [hs]
         cases hr:rdyV env ev ⟨src,e0,guard,tgts,inner,acts⟩ with
         | mk r1 r2 =>
          rw [hr] at HIR3
          have HX3:Hid (X=frK env ev C.trs (l.drop (k+1)) (if r1=true then ((j:Int),m) else frS env ev s (C.trs.drop (j+1)) (j+1) (m+if r2=true then 1 else 0))):=Lib.hid (by rw [HX2.out,frS,if_pos hs,hr])
          generalize tgts.length=tl at *
          generalize acts.length=al at *
          clear HX2 hr hs
          cases r1 with
          | true =>
           have HX4:Hid (X=((j:Int),m)):=Lib.hid (by rw [HX3.out,if_pos rfl,frK_some])
           clear HX3
           go_wp2_with fail
           refine HIR3.out.mono ?_
           rintro e w1 ⟨rfl,hb1⟩
           have HB1:=Lib.hid (HBA.out.trans (hb1.mono HBA.out.size))
           clear hb1
           go_wp2_with fail
           go_ret2
           exact ⟨by rw [HX4.out] <;> rfl,HB1.out⟩
          | false =>
           have HX4:Hid (X=frK env ev C.trs (l.drop (k+1)) (frS env ev s (C.trs.drop (j+1)) (j+1) (m+if r2=true then 1 else 0))):=Lib.hid (by rw [HX3.out,if_neg (by simp)])
           clear HX3
           cases r2 with
           | true =>
            go_wp2_with fail
            refine HIR3.out.mono ?_
            rintro e w1 ⟨rfl,hb1⟩
            have HB1:=Lib.hid (HBA.out.trans (hb1.mono HBA.out.size))
            clear hb1
            go_wp2_with fail
            go_roundw
            case rel=>exact ⟨j+1,m+1,by omega,by omega,by go_num,by go_num,HX4,HB1.out⟩
            case measure=>simp [intOf]; omega
           | false =>
            go_wp2_with fail
            refine HIR3.out.mono ?_
            rintro e w1 ⟨rfl,hb1⟩
            have HB1:=Lib.hid (HBA.out.trans (hb1.mono HBA.out.size))
            clear hb1
            go_wp2_with fail
            go_roundw
            case rel=>exact ⟨j+1,m,by omega,by omega,by go_num,rfl,HX4,HB1.out⟩
            case measure=>simp [intOf]; omega
       · have hsb:(src != s)=true:=by simpa using hs
         have HX3:Hid (X=frK env ev C.trs (l.drop (k+1)) (frS env ev s (C.trs.drop (j+1)) (j+1) m)):=Lib.hid (by rw [HX2.out,frS,if_neg hs])
         generalize tgts.length=tl at *
         generalize acts.length=al at *
         clear HX2 hs HIR3
         go_wp2_with fail
         go_roundw
         case rel=>exact ⟨j+1,m,by omega,by omega,by go_num,rfl,HX3,HBA.out⟩
         case measure=>simp [intOf]; omega
     · obtain rfl:j=C.trs.length:=by omega
       have HX2:Hid (X=frA env ev C.trs (l.drop (k+1)) m):=Lib.hid (by rw [HX.out,List.drop_length,frS,frK_none])
       go_wp2_with fail
       go_roundw
       case rel=>exact ⟨k+1,m,by omega,by omega,by go_num,rfl,HX2,HB.out⟩
       case measure=>simp [intOf]; omega
  · obtain rfl:k=l.length:=by omega
    have HX2:Hid (X=(-1,n)):=Lib.hid (by rw [HX.out,List.drop_length,frA])
    go_wp2_with fail
    go_ret2
    exact ⟨by rw [HX2.out] <;> rfl,HB.out⟩

theorem index_nil (x:Int) (w:World):Calls Tryz.prog 160 #[.slice none 0 0,.int .i64 x] w fun e w'=>e=.returned (.int .i64 (-1))∧w=w':=by
 go_enter Tryz.func160,Tryz.ntmps160
 go_wp2
 go_loop [8] (fun i=>i=.int .i64 0) (fun _=>0)
 case atStart=>rfl
 case round =>
  subst hrel
  go_wp2
  go_ret
  exact ⟨rfl,rfl⟩
theorem contains_row (v:Value) (B:Nat) (xs:List Int) (x:Int) (w:World) (h:w.ownsRow B 3 1 v xs.length (intVals xs)) (hl:xs.length≤1000000) :
 Calls Tryz.prog 125 #[v,.int .i64 x] w fun e w'=>e=.returned (.bool (xs.contains x))∧w=w':=by
 rcases h.2 with ⟨rfl,hn⟩ | ⟨g,cap,cur,rfl,_⟩
 · obtain rfl:xs=[]:=List.eq_nil_of_length_eq_zero hn
   clear h hn hl
   go_enter Tryz.func125,Tryz.ntmps125
   go_wp2_with fail
   refine (index_nil x w).mono ?_
   rintro e w' ⟨rfl,rfl⟩
   go_wp2
   go_ret
   exact ⟨rfl,rfl⟩
 · refine (contains_any xs g cap x w (fun i y hy=>own_cell h i _ (by simp [intVals,hy])) hl).mono ?_
   rintro e w' ⟨rfl,rfl⟩
   refine ⟨ret_bool ?_,rfl⟩
   unfold hasB
   rw [Bool.eq_iff_iff]
   simp
theorem own_one (w:World) (x:Value) (t:TypeId):(w.alloc (.cells #[x] t)).ownsRow w.heap.size t 1 (.slice (some ⟨w.heap.size,0,none⟩) 1 1) 1 [x] :=
 ⟨rfl,.inr ⟨w.heap.size,1,#[x],rfl,Nat.le_refl _,Blk.new w t #[x],Nat.le_refl _,by unfold maxLen; omega,rfl,rfl⟩⟩
theorem leaf_up {S:List St} (ht:Tame S) {n:Nat} {x:Int} (h:x ∈ lvL S n):0≤cUp S x:=by
 have hs:=lvL_is h
 have hr:=isSt_iff.1 hs
 refine ht.up x hs ?_
 have hne:x ≠ 0:=by
  rintro rfl
  unfold lvL lvU at h
  obtain ⟨k,hk,hk0⟩:=List.mem_map.1 h
  obtain rfl:k=0:=by omega
  have hf:=(List.mem_filter.1 hk).2
  unfold leafP at hf
  have h2:leafB (stAt S ((0:Nat):Int)).kind=true:=by
   simp only [Bool.and_eq_true] at hf
   exact hf.2
  have h3:(stAt S ((0:Nat):Int)).kind=2:=ht.first
  rw [h3] at h2
  simp [leafB] at h2
 omega
theorem way_len {S:List St} (ht:Tame S) (s:Int):(wayL S s).length≤25:=by
 have:=ups_short S s
 have:=ht.len
 unfold wayL
 rw [List.length_cons]
 omega
theorem missed_le (env:List Int) (ev:Int) {C:Ch} (ht:Tame C.sts) (hF:fewB C=true) (s:Int):(frA env ev C.trs (wayL C.sts s) 0).2≤1500:=by
 have h1:=frA_le env ev C.trs (wayL C.sts s) 0
 have h2:=Nat.mul_le_mul (way_len ht s) (few_parts hF).2.1
 omega
def GaPost (X:List Int × Nat) (w:World) (e:Ending) (w':World):Prop:=Below w.heap.size w w'∧∃ v,e=.returned (.tuple #[v,.int .i64 (X.2:Int)])∧w'.ownsRow w.heap.size 3 1 v X.1.length (intVals X.1)
set_option maxHeartbeats 4000000 in
set_option maxRecDepth 100000 in
theorem gather_any (g n:Nat) (ve:Value) (ev:Int) (C:Ch) (env:List Int) (w:World) (hL:Laid w) (hT:TreeAt w g C) (hF:fewB C=true) (hta:Tame C.sts) (hR:Rooted C.sts) (hn:n < 4294967296) (hE:NumsAt w ve env) (hel:env.length≤1000) (hef:∀ x ∈ env,F64 x) :
 Calls Tryz.prog 78 #[.pointer (some ⟨g,0,none⟩),.int .u32 (n:Int),ve,.int .i64 ev] w (GaPost (gaL C env ev n) w):=by
 obtain ⟨i0,hi,hz0,hz1,hz2⟩:=info_parts Tryz.info3
 have HI:=Lib.hid hi
 have HZ0:=Lib.hid hz0
 have HZ1:=Lib.hid hz1
 have HZ2:=Lib.hid hz2
 have HCT:=Lib.hid (ctrans_any g C w hT hF)
 have HLV:=Lib.hid (fun (W:World) (h:Below w.heap.size w W)=>leavesT_any g n C W (hT.below h) (by have:=hta.len; omega) hn)
 have HUP:=Lib.hid (fun (W:World) (h:Below w.heap.size w W) (s:Int)=>upsT_any g s C W (hT.below h) (by have:=hta.len; omega) hR)
 have HFR:=Lib.hid (fun (W:World) (h:Below w.heap.size w W) (v u:Value) (hv:TrsAt W v C.trs) (l:List Int) (hl:ListAt W u l) (hll:l.length≤1000)=>firstReady_any v u ve l ev C env W (hL.after h) hv hF hl hll (hE.below h) hel hef)
 have HLU:=Lib.hid (fun x (h:x ∈ lvL C.sts n)=>ups_head (leaf_up hta h))
 have HWL:=Lib.hid (fun s=>way_len hta s)
 have HML:=Lib.hid (fun s=>missed_le env ev hta hF s)
 have hlv:(lvL C.sts n).length≤24:=Nat.le_trans (lvU_len C.sts n _) hta.len
 have HX:∃ X,X=gaL C env ev n:=⟨_,rfl⟩
 obtain ⟨X,hX⟩:=HX
 rw [← hX]
 have HX:Hid (X=(lvL C.sts n).foldl (gaStep C env ev) ([],0)):=Lib.hid hX
 generalize lvL C.sts n=l at *
 clear hi hz0 hz1 hz2 hL hT hF hta hR hE hef hX
 go_enter Tryz.func78,Tryz.ntmps78
 go_wp2_with fail
 refine HCT.out.mono ?_
 rintro e w1 ⟨hb1,vt,rfl,hT1⟩
 have HB1:=Lib.hid hb1
 have HT1:=Lib.hid hT1
 clear hb1 hT1
 go_wp2_with fail
 refine (HLV.out w1 HB1.out).mono ?_
 rintro e w2 ⟨hb2,vl,rfl,ho2⟩
 have HB2:=Lib.hid (HB1.out.trans (hb2.mono HB1.out.size))
 have HT2:=Lib.hid (TrsAt.below HT1.out hb2)
 obtain ⟨A,cap,rfl,hcap,he⟩:=list_of_own ho2
 have HE:=Lib.hid he
 clear hb2 ho2 he
 go_wp2_with fail
 go_loopw [11,12,26] (fun v m i wr=>∃ (k q:Nat) (acc:List Int),k≤l.length∧q≤k * 1500∧acc.length≤k∧i=.int .i64 (k:Int)∧m=.int .i64 (q:Int)∧Hid (X=(l.drop k).foldl (gaStep C env ev) (acc,q))∧Below w2.heap.size w2 wr∧Hid (wr.ownsRow w2.heap.size 3 1 v acc.length (intVals acc))) (fun _ _ i _=>l.length - (intOf i).toNat)
 case atStart=>exact ⟨0,0,[],Nat.zero_le _,Nat.zero_le _,Nat.zero_le _,rfl,rfl,HX,Below.refl _ _,Lib.hid (World.ownsRow_nil _ _ _ _)⟩
 case round =>
  clear HX
  obtain ⟨k,q,acc,hk,hq,hal,rfl,rfl,HX,hb,hown⟩:=hrel
  obtain ⟨wo,rfl⟩:∃ wo:World,wo=wr:=⟨_,rfl⟩
  have HBR:=Lib.hid hb
  have HB:=Lib.hid (HB2.out.trans (hb.mono HB2.out.size))
  have hbs:w.heap.size≤wo.heap.size:=HB.out.size
  by_cases hlt:k < l.length
  · obtain ⟨b,o,rfl,hbl,hc⟩:=HE.out k _ (List.getElem?_eq_getElem hlt)
    have c0:wo.cell? ⟨b,o+k,none⟩=some (.int .i64 l[k]):=by have:=IntAt.keeps w2 wo b _ _ hb hbl hc; rwa [Nat.mul_one] at this
    have HX2:Hid (X=(l.drop (k+1)).foldl (gaStep C env ev) (gaStep C env ev (acc,q) l[k])):=Lib.hid (HX.out.trans (drop_fold _ l k hlt _))
    have HU0:=Lib.hid (HLU.out l[k] (List.getElem_mem hlt))
    have hul:0 < (ups C.sts l[k]).length:=(List.getElem?_eq_some_iff.1 (HLU.out l[k] (List.getElem_mem hlt))).1
    have hwl:=HWL.out l[k]
    have HWY:Hid (wayL C.sts l[k]=[l[k]] ++ ups C.sts l[k]):=Lib.hid rfl
    have hml:=HML.out l[k]
    have hwl2:(ups C.sts l[k]).length≤24:=by unfold wayL at hwl; rw [List.length_cons] at hwl; omega
    have HGS:Hid (gaStep C env ev (acc,q) l[k]=(putIn acc (frA env ev C.trs (wayL C.sts l[k]) 0).1,q+(frA env ev C.trs (wayL C.sts l[k]) 0).2)):=Lib.hid rfl
    have HFX:=Lib.hid (fun (W:World) (h:Below w.heap.size w W) (v u:Value) (hv:TrsAt W v C.trs) (hl:ListAt W u (wayL C.sts l[k]))=>HFR.out W h v u hv _ hl (by omega))
    rw [HGS.out] at HX2
    generalize frA env ev C.trs (wayL C.sts l[k]) 0=Y at *
    obtain ⟨y,yn⟩:=Y
    simp only at hml HX2 HFX
    have HUS:=Lib.hid (HUP.out (wo.alloc (.cells #[.int .i64 l[k]] 3)) (HB.out.alloc HB.out.size _) l[k])
    have HT3:=Lib.hid (fun (W:World) (h:Below wo.heap.size wo W)=>TrsAt.below HT2.out (HBR.out.trans (h.mono HBR.out.size)))
    generalize ups C.sts l[k]=up at *
    generalize wayL C.sts l[k]=way at *
    generalize l[k]=s at *
    clear hc hb HX HGS
    go_wp2_with fail
    refine HUS.out.mono ?_
    rintro e w3 ⟨hb3,v3,rfl,ho3⟩
    have HO3:=Lib.hid (own_below (own_one wo (.int .i64 s) 3) hb3)
    have HNE:Hid (u11.ownBlock=none ∨ u11.ownBlock ≠ (Value.slice (some ⟨wo.heap.size,0,none⟩) 1 1).ownBlock):=Lib.hid (.inr fun h=>by
     have:=(hown.out.lt wo.heap.size (h.trans rfl)).2
     omega)
    have HAC:=Lib.hid (own_below (hown.out.alloc (.cells #[.int .i64 s] 3)) hb3)
    have HB3:=Lib.hid (below_boxed hb3)
    have hs3:wo.heap.size+1≤w3.heap.size:=by have:=hb3.size; simpa using this
    rcases ho3.2 with ⟨_,hz⟩ | ⟨g3,cap3,cur3,rfl,hge3,hg3,hc3,hm3,hs3',ht3⟩
    · omega
    · have HC3:=Lib.hid ho3
      clear hb3 ho3 hown c0 hg3 ht3 hm3 hs3'
      go_wp2_with (at_builtin; refine wpList_append_own_at _ rfl _ _ 36 rfl (wo.heap.size) 3 i0 (.int .i64 0) 1 8 Tryz.underlying36 HI.out HZ0.out HZ1.out HZ2.out rfl (by decide) _ _ _ rfl HO3.out ⟨g3,0,none⟩ up.length cap3 (intVals up) rfl (by simp [intVals]) ?c1 ?c2 ?c3 ?c4 ?c5 ?_)
      case c1=>intro j u hj; rw [flat_add]; simpa using own_cell HC3.out j u hj
      case c2 =>
       intro u hu
       obtain ⟨x,_,rfl⟩:=List.mem_map.1 hu
       rfl
      case c3=>unfold maxLen; omega
      case c4=>omega
      case c5=>omega
      intro v4 w4 hown4 hgrow4 _ _
      have HW4:Hid (ListAt w4 v4 way):=Lib.hid (list_of_own (B:=wo.heap.size) (by rw [HWY.out,List.length_append]; simpa [intVals] using hown4))
      have hblk:∀ b,(Value.slice (some ⟨wo.heap.size,0,none⟩) 1 1).ownBlock=some b→wo.heap.size≤b:=fun b hb=>by
       simp [Value.ownBlock] at hb
       omega
      have HB4:=Lib.hid (Below.grown (HB3.out) hgrow4 (by omega) hblk)
      have HA4:=Lib.hid (HAC.out.kept hgrow4 (HNE.out))
      have HB4w:=Lib.hid (HB.out.trans (HB4.out.mono HB.out.size))
      clear hown4 hgrow4 hblk HNE HO3
      go_wp2_with fail
      refine (HFX.out w4 HB4w.out vt v4 (HT3.out w4 HB4.out) HW4.out).mono ?_
      rintro e w5 ⟨rfl,hb5⟩
      have HB5:=Lib.hid (HBR.out.trans ((HB4.out.trans (hb5.mono HB4.out.size)).mono HBR.out.size))
      have HA5:=Lib.hid (own_below HA4.out hb5)
      have hs5:w2.heap.size≤w5.heap.size:=HB5.out.size
      clear hb5
      by_cases hy:y=-1
      · have hyb:(y != -1)=false:=by simp [hy]
        have HP:Hid (putIn acc y=acc):=Lib.hid (by unfold putIn; rw [if_pos (.inl hy)])
        clear hy
        go_wp2_with fail
        go_roundw
        case rel=>exact ⟨k+1,q+yn,acc,by omega,by omega,by omega,by go_num,by go_num,by rw [← HP.out]; exact HX2,HB5.out,HA5⟩
        case measure=>simp [intOf]; omega
      · have hyb:(y != -1)=true:=by simpa using hy
        cases hcn:acc.contains y with
        | true =>
         have HP:Hid (putIn acc y=acc):=Lib.hid (by unfold putIn; rw [if_pos (.inr hcn)])
         have HCN:=Lib.hid hcn
         clear hy hcn
         go_wp2_with fail
         refine (contains_row _ _ acc y w5 HA5.out (by omega)).mono ?_
         rintro e w6 ⟨rfl,rfl⟩
         rw [HCN.out]
         go_wp2_with fail
         go_roundw
         case rel=>exact ⟨k+1,q+yn,acc,by omega,by omega,by omega,by go_num,by go_num,by rw [← HP.out]; exact HX2,HB5.out,HA5⟩
         case measure=>simp [intOf]; omega
        | false =>
         have HP:Hid (putIn acc y=acc ++ [y]):=Lib.hid (by unfold putIn; rw [if_neg (by rw [hcn]; simp; exact hy)])
         have HCN:=Lib.hid hcn
         clear hy hcn
         go_wp2_with fail
         refine (contains_row _ _ acc y w5 HA5.out (by omega)).mono ?_
         rintro e w6 ⟨rfl,rfl⟩
         rw [HCN.out]
         go_wp2_with (at_builtin; refine wpList_append_own_at _ rfl _ _ 36 rfl (w2.heap.size) 3 i0 (.int .i64 0) 1 8 Tryz.underlying36 HI.out HZ0.out HZ1.out HZ2.out rfl (by decide) _ _ _ rfl (HA5.out.alloc _) ⟨w5.heap.size,0,none⟩ 1 1 [.int .i64 y] rfl rfl ?c1 ?c2 ?c3 ?c4 ?c5 ?_)
         case c1=>exact new_val _ _ _ _ (by simp)
         case c2=>exact int_one _
         case c3=>unfold maxLen; omega
         case c4=>omega
         case c5=>simp; omega
         intro v' w7 hown' hgrow _ _
         have HG:=Lib.hid (Below.grown (B:=w2.heap.size) (HB5.out.alloc HB5.out.size _) hgrow (by have:=HB5.out.size; simp; omega) (fun g hg=>by have:=(HA5.out.lt g hg).1; simpa using this))
         have HO':=Lib.hid hown'
         clear hown' hgrow
         go_wp2_with fail
         go_roundw
         case rel=>exact ⟨k+1,q+yn,acc ++ [y],by omega,by omega,by simp; omega,by go_num,by go_num,by rw [← HP.out]; exact HX2,HG.out,Lib.hid (by rw [intVals_snoc]; simpa using HO'.out)⟩
         case measure=>simp [intOf]; omega
  · obtain rfl:k=l.length:=by omega
    have HX2:Hid (X=(acc,q)):=Lib.hid (by rw [HX.out,List.drop_length,List.foldl_nil])
    go_wp2_with fail
    go_ret2
    refine ⟨HB.out,_,by rw [HX2.out] <;> rfl,by rw [HX2.out]; exact own_lower hown.out HB2.out.size⟩

theorem ans_cases (m:Md) (ts:List Tk) (hn:∀ t ∈ ts,t.2.1≤9223372036854775807) (hef:∀ x ∈ m.env,F64 x):(∃ k n,ans m ts=.ok k n∧Good (.ok k n)) ∨ ∃ c:Nat,ans m ts=.bad (c:Int)∧1≤c∧c≤13:=by
 cases hm:mayP ts with
 | true =>
  obtain ⟨hl,hV,htop⟩:=ans_may m hm
  have hg:=vs_good m hn hef ts.length (Nat.le_refl _) hV
  rw [htop] at hg
  have hg:=hg _ (List.mem_singleton.2 rfl)
  cases ha:ans m ts with
  | ok k n=>rw [ha] at hg; exact .inl ⟨k,n,rfl,hg⟩
  | bad c =>
   rw [ha] at hg
   right
   rcases hg with rfl | rfl | rfl
   · exact ⟨4,rfl,by omega,by omega⟩
   · exact ⟨8,rfl,by omega,by omega⟩
   · exact ⟨9,rfl,by omega,by omega⟩
 | false=>exact .inr ⟨2,ans_not m hm,by omega,by omega⟩
theorem wp_append_at {P:Program} {o:Oper} {a:Act} {w:World} {K:Act→World→Prop} {Q:Exit→Act→World→Prop} (s x:Operand) (t:TypeId)
 (ho:o.op=.call { callee:=.builtin .append,args:=#[s,x],argTypes:=#[t,t] })
 (base:Nat) (e:TypeId) (i:TypeInfo) (z:Value) (size bytes:Nat) (ht:P.underlying t=some (.slice e)) (hi:P.info? e=some i) (hz:i.zero=some z)
 (hsize:i.size=size) (hby:i.bytes=bytes) (hzs:z.cells.size=size) (hsz:0 < size)
 (v:Value) (n:Nat) (xs:List Value) (hs:a.eval s=v) (hown:w.ownsRow base e size v n xs)
 (ad:Addr) (m c:Nat) (news:List Value) (hx:a.eval x=.slice (some ad) m c) (hl:news.length=m * size) (hnews:∀ j u,news[j]?=some u→w.cell? (ad.add j)=some u) (h1:∀ u ∈ news,u.oneCell'=true)
 (h63:n+m≤maxLen) (hbytes:(n+m) * bytes≤140737488355328) (hbase:base≤w.heap.size)
 (h:∀ v' w',w'.ownsRow base e size v' (n+m) (xs ++ news)→w.grownBy w' v.ownBlock→(v'.ownBlock=v.ownBlock ∨ v'.ownBlock=some w.heap.size)→K (a.put o.dst v') w') :
 o.wp P a w K Q:=by
 obtain ⟨v',w',hr,h2,h3,h4,h5⟩:=run_append_own_at (P:=P) w base t o.type e i z size bytes ht hi hz hsize hby hzs hsz v n xs hown ad m c news hl hnews h1 h63 hbytes hbase
 unfold Oper.wp execOp
 simp only [ho,resolve,invoke,builtin,Sem.run_bind,Sem.run_pure,Result.andThen_ok,List.map_toArray,List.map_cons,List.map_nil,hs,hx,hr]
 exact h _ _ h2 h3 h5
theorem anyD_two {P:Program} {ops:Array Oper} {Q:Exit→Act→World→Prop} {md:Region.Mode} {S:World→Prop} {D:Nat→Bool} {i j:Nat} {oi oj:Oper} {fuel:Nat} {listed:Array Bool} {a:Act} {w:World}
 (hi:ops[i]?=some oi) (hgi:oi.guard=none) (hj:ops[j]?=some oj) (hgj:oj.guard=none) (hr:Region.ready md ops listed=[i,j])
 (h1:∀ K:Act→World→Prop,Hid (∀ a' w',(D i=false→S w→S w')→anyD P md ops Q S D fuel (listed.setIfInBounds i true) a' w'→K a' w')→oi.wp P a w K Q)
 (h2:∀ K:Act→World→Prop,Hid (∀ a' w',(D j=false→S w→S w')→anyD P md ops Q S D fuel (listed.setIfInBounds j true) a' w'→K a' w')→oj.wp P a w K Q):anyD P md ops Q S D (fuel+1) listed a w:=by
 refine ⟨fun h0=>(by rw [hr] at h0; cases h0),fun k hk=>?_⟩
 rw [hr] at hk
 rcases List.mem_cons.1 hk with rfl | hk
 · unfold wpOp
   rw [hi]
   simp only [Region.wanted,hgi,if_true]
   exact .inl (h1 _ (Lib.hid fun a' w' h1 h2=>⟨h1,h2⟩))
 · obtain rfl:=List.mem_singleton.1 hk
   unfold wpOp
   rw [hj]
   simp only [Region.wanted,hgj,if_true]
   exact .inl (h2 _ (Lib.hid fun a' w' h1 h2=>⟨h1,h2⟩))
end Go.Proofs.YtmhkpjcdkjnlnaaGreatDoor
