/- The contracts of entry's addKids, addAbove and addAll, given that of addBelow: states are added to a set. -/
import Derived.Test.YtmhkpjcdkjnlnaaGreatDoorFUPkind
import Derived.Test.YtmhkpjcdkjnlnaaGreatDoorFUSrl
namespace Go.Proofs.YtmhkpjcdkjnlnaaGreatDoor
open Go.ChangeShapes Go.WideShapes Go.ChangeAt Go.RowKit
set_option linter.unusedVariables false

def cntU:Nat→(Nat→Bool)→Nat
 | 0,_=>0
 | n+1,b=>cntU n b+if b n=true then 0 else 1
theorem cntU_le:∀ (n:Nat) {b b':Nat→Bool},Le b b'→cntU n b'≤cntU n b
 | 0,_,_,_=>Nat.le_refl _
 | n+1,b,b',h=>by
  have:=cntU_le n h
  rw [cntU,cntU]
  by_cases hb:b n=true
  · rw [if_pos hb,if_pos (h n hb)]; omega
  · rw [if_neg hb]; split <;> omega
theorem cntU_lt:∀ (n:Nat) {b:Nat→Bool} {k:Nat},k < n→b k=false→cntU n (addS b (k:Int)) < cntU n b
 | 0,_,_,h,_=>by omega
 | n+1,b,k,h,hb=>by
  rw [cntU,cntU]
  by_cases hk:k=n
  · subst hk
    have:=cntU_le k (le_add b (k:Int))
    rw [if_pos (by simp [addS]),if_neg (by rw [hb]; simp)]
    omega
  · have:=cntU_lt n (k:=k) (by omega) hb
    have h2:addS b (k:Int) n=b n:=by
     unfold addS
     have:¬ ((n:Int)=(k:Int)):=by omega
     simp [this]
    rw [h2]
    omega
theorem cntU_top:∀ (n:Nat),cntU n (fun _=>false)=n
 | 0=>rfl
 | n+1=>by rw [cntU,cntU_top n]; simp
theorem fold_up {α:Type} (G:Bs→α→Bs) (h:∀ st x,Le st.b (G st x).b):∀ (L:List α) (st:Bs),Le st.b (L.foldl G st).b
 | [],st=>Le.refl _
 | x :: L,st=>(h st x).trans (fold_up G h L _)
section
variable {S:List St} {F:Bs→Int→Bs} (h:∀ st x,Le st.b (F st x).b)
include h
theorem kidStep_up (st:Bs) (k:Int):Le st.b (kidStep (tB S) F st k).b:=by
 unfold kidStep
 split
 · exact Le.refl _
 · exact h st k
theorem kids_up (p:Int) (st:Bs):Le st.b (kidsW S (tB S) F p st).b:=fold_up _ (fun st k=>kidStep_up h st k) _ _
theorem upStep_up (st:Bs) (p:Int):Le st.b (upStep S (tB S) adB F st p).b:=by
 unfold upStep
 split
 · exact kids_up h p (adB st p)
 · exact Le.refl _
theorem upW_up (top:Int):∀ (L:List Int) (st:Bs),Le st.b (upW S (tB S) adB F top L st).b
 | [],st=>Le.refl _
 | p :: L,st=>by
  rw [upW]
  split
  · exact Le.refl _
  · exact (upStep_up h st p).trans (upW_up top L _)
theorem all_up (l:List Int) (top:Int) (st:Bs):Le st.b (allW S (tB S) adB F l top st).b:=(fold_up F h l st).trans (fold_up _ (fun st s=>upW_up h top _ st) l _)
end
theorem pB_up (S:List St) (H:List Nat):∀ (f:Nat) (st:Bs) (s:Int),Le st.b (pB S H f st s).b
 | 0,st,s=>Le.refl _
 | f+1,st,s=>by
  rw [pB]
  split
  · exact Le.refl _
  · split
    · exact Le.trans (B:=addS st.b s) (le_add st.b s) (all_up (pB_up S H f) _ _ ⟨_,addS st.b s⟩)
    · split
      · exact Le.trans (B:=addS st.b s) (le_add st.b s) (all_up (pB_up S H f) _ _ ⟨_,addS st.b s⟩)
      · split
        · exact Le.trans (B:=addS st.b s) (le_add st.b s) (kids_up (pB_up S H f) _ ⟨_,addS st.b s⟩)
        · exact le_add st.b s

theorem gr_refl {w:World} {r:Option Nat}:w.grownBy w r:=⟨rfl,rfl,rfl,Nat.le_refl _,fun _ _ _=>rfl⟩
theorem gr_set {w w':World} {g:Nat} (h:w.grownBy w' (some g)) (j:Nat) (u:Value):w.grownBy (w'.setCell ⟨g,j,none⟩ u) (some g) :=
 ⟨h.os,h.tape,h.output,Nat.le_trans h.size (by simp [World.setCell]),fun k hk hne=>(Below.heap_setCell w' ⟨g,j,none⟩ u k (fun e=>hne (by rw [e]))).trans (h.block k hk hne)⟩
theorem gr_below {w w1 w2:World} {r:Option Nat} (h:w.grownBy w1 r) (hb:Below w1.heap.size w1 w2):w.grownBy w2 r:=h.trans (only_of_below hb r)
theorem gr_drew {w w1:World} {r:Option Nat} (h:w.grownBy w1 r):w.grownBy w1.drew r:=⟨h.os,h.tape,h.output,h.size,h.block⟩
structure Ent (w0:World) (t:Nat) (vs vh:Value) (C:Ch) (H:List Nat):Prop where
 tree:TreeAt w0 t C
 sts:StsAt w0 vs C.sts
 hist:HistAt w0 vh H
 root:Rooted C.sts
 len:C.sts.length≤24
 hlen:H.length≤1000
 ofl:∀ s,(ofS C.sts H s).length≤1000
 ini:∀ s,isSt C.sts s=true→(stAt C.sts s).ini.length≤1000
structure EAt (w0:World) (t:Nat) (vs vh:Value) (n:Nat) (st:Bs) (w:World):Prop where
 below:Below w0.heap.size w0 w
 blk:Blk w w0.heap.size 94 #[vs,vh,.pointer (some ⟨t,0,none⟩),.int .u32 ((bset st.a n:Nat):Int),.int .u32 ((bset st.b n:Nat):Int)]
def EnPost (w0:World) (t:Nat) (vs vh:Value) (n:Nat) (st:Bs) (w:World) (e:Ending) (w':World):Prop :=
 e=.returned (.tuple #[])∧w.grownBy w' (some w0.heap.size)∧EAt w0 t vs vh n st w'
section
variable {w0:World} {t:Nat} {vs vh:Value} {n:Nat} {st:Bs} {w:World}
theorem EAt.lt (h:EAt w0 t vs vh n st w):w0.heap.size < w.heap.size:=h.blk.lt
theorem EAt.kept {w':World} (h:EAt w0 t vs vh n st w) (hb:Below w.heap.size w w'):EAt w0 t vs vh n st w':=⟨h.below.trans (hb.mono h.below.size),h.blk.below hb h.blk.lt⟩
theorem EAt.drew (h:EAt w0 t vs vh n st w):EAt w0 t vs vh n st w.drew:=⟨h.below.drew,h.blk⟩
theorem EAt.put (h:EAt w0 t vs vh n st w) (s:Int):EAt w0 t vs vh n (adB st s) (w.setCell ⟨w0.heap.size,3,none⟩ (.int .u32 ((bset (addS st.a s) n:Nat):Int))):=⟨h.below.setCell (Nat.le_refl _) _,h.blk.set_ 3 _⟩
theorem EAt.mark (h:EAt w0 t vs vh n st w) (s:Int):EAt w0 t vs vh n ⟨st.a,addS st.b s⟩ (w.setCell ⟨w0.heap.size,4,none⟩ (.int .u32 ((bset (addS st.b s) n:Nat):Int))):=⟨h.below.setCell (Nat.le_refl _) _,h.blk.set_ 4 _⟩
theorem EAt.cells (h:EAt w0 t vs vh n st w):(w.cell? ⟨w0.heap.size,0,none⟩=some vs∧w.cell? ⟨w0.heap.size,1,none⟩=some vh∧w.cell? ⟨w0.heap.size,2,none⟩=some (.pointer (some ⟨t,0,none⟩)))∧w.cell? ⟨w0.heap.size,3,none⟩=some (.int .u32 ((bset st.a n:Nat):Int))∧w.cell? ⟨w0.heap.size,4,none⟩=some (.int .u32 ((bset st.b n:Nat):Int)):=⟨⟨h.blk.cell 0,h.blk.cell 1,h.blk.cell 2⟩,h.blk.cell 3,h.blk.cell 4⟩
end
theorem and_below (S:List St) (A:Nat→Bool) (x:Int) (hl:S.length≤24):(bits .and .u32 ((bset A S.length:Nat):Int) ((belowN S x:Nat):Int) == 0)=!someP S A x:=by
 unfold belowN
 rw [(bits_nat .u32 32 (by decide) wrap_u32 _ _ (bset_u32 A (by omega)) (bset_u32 _ (by omega))).1,bset_and]
 unfold someP
 have hz:=bset_zero (fun y=>A y && belowP S x y) S.length
 have he:(List.range S.length).any (fun y=>A y && belowP S x y)=(List.range S.length).any (fun y=>A y && (cIn S (y:Int) x && !histB (stAt S (y:Int)).kind)):=rfl
 rw [← he]
 cases hc:(List.range S.length).any (fun y=>A y && belowP S x y) with
 | false=>rw [hz.2 hc]; rfl
 | true =>
  refine beq_false_of_ne fun h=>?_
  have h0:bset (fun y=>A y && belowP S x y) S.length=0:=by omega
  rw [hz.1 h0] at hc
  cases hc
theorem kids_len (S:List St) (p:Int):(kids S p).length≤S.length:=kidsU_len S p _
theorem memb_kids (S:List St) (p:Int):memb S (bitN (bset (kidB S p) S.length))=kids S p:=bset_memb S _
def BelowOK (w0:World) (t:Nat) (vs vh:Value) (C:Ch) (H:List Nat) (f:Nat):Prop :=
 ∀ (s:Int) (st:Bs) (w:World),EAt w0 t vs vh C.sts.length st w→cntU C.sts.length st.b≤f→Calls Tryz.prog 47 #[.pointer (some ⟨w0.heap.size,0,none⟩),.int .i64 s] w (EnPost w0 t vs vh C.sts.length (pB C.sts H f st s) w)
set_option maxHeartbeats 4000000 in
set_option maxRecDepth 100000 in
theorem addKids_any {w0:World} {t:Nat} {vs vh:Value} {C:Ch} {H:List Nat} {f:Nat} (hN:Ent w0 t vs vh C H) (hF:BelowOK w0 t vs vh C H f) (p:Int) (st:Bs) (w:World) (hp:isSt C.sts p=true) (hE:EAt w0 t vs vh C.sts.length st w) (hc:cntU C.sts.length st.b≤f) :
 Calls Tryz.prog 91 #[.pointer (some ⟨w0.heap.size,0,none⟩),.int .i64 p] w (EnPost w0 t vs vh C.sts.length (kidsW C.sts (tB C.sts) (pB C.sts H f) p st) w):=by
 have HN:=Lib.hid hN
 have HF:=Lib.hid hF
 have HP:=Lib.hid hp
 have HE:=Lib.hid hE
 have HR:Hid (kidsW C.sts (tB C.sts) (pB C.sts H f) p st=(kids C.sts p).foldl (kidStep (tB C.sts) (pB C.sts H f)) st):=Lib.hid rfl
 generalize kidsW C.sts (tB C.sts) (pB C.sts H f) p st=R at *
 clear hN hF hp hE
 go_enter Tryz.func91,Tryz.ntmps91
 go_wp2_with fail
 refine anyD_start (fun W=>W.cell? ⟨w0.heap.size,0,none⟩=some vs∧W.cell? ⟨w0.heap.size,1,none⟩=some vh∧W.cell? ⟨w0.heap.size,2,none⟩=some (.pointer (some ⟨t,0,none⟩))) (fun i=>[].contains i) (by kernel_rfl) ?_
 have HE0:Hid (EAt w0 t vs vh C.sts.length st w.drew):=Lib.hid HE.out.drew
 refine anyD_t 0 (.pointer (some ⟨w0.heap.size,0,none⟩)) ?_
 try simp only [Act.put,sx]
 refine anyD_t 1 (.pointer (some ⟨w0.heap.size,0,none⟩)) ?_
 try simp only [Act.put,sx]
 refine anyD_t 2 (.pointer (some ⟨w0.heap.size,0,none⟩)) ?_
 try simp only [Act.put,sx]
 refine anyD_l 3 (.agg #[vs,vh]) (HE0.out.cells.1) ?_
 try simp only [Act.put,sx]
 refine anyD_t 4 (.pointer (some ⟨w0.heap.size,0,none⟩)) ?_
 try simp only [Act.put,sx]
 refine anyD_t 5 (.pointer (some ⟨w0.heap.size,0,none⟩)) ?_
 try simp only [Act.put,sx]
 refine anyD_t 6 (.pointer (some ⟨w0.heap.size,2,none⟩)) ?_
 try simp only [Act.put,sx]
 refine anyD_l 7 (.pointer (some ⟨t,0,none⟩)) (HE0.out.cells.1) ?_
 try simp only [Act.put,sx]
 refine anyD_t 8 (.int .i64 p) ?_
 try simp only [Act.put,sx]
 refine anyD_t 12 (.int .i64 0) ?_
 try simp only [Act.put,sx]
 refine anyD_one (i:=9) rfl rfl (by kernel_rfl) (fun K HK=>?_)
 go_simp
 refine (tkids_any t p C _ (HN.out.tree.below HE0.out.below) (by have:=HN.out.len; omega) HP.out).mono ?_
 rintro e w1 ⟨rfl,hb1⟩
 have HE1:=Lib.hid (HE0.out.kept hb1)
 have HB1:=Lib.hid hb1
 clear hb1
 go_simp
 refine HK.out _ _ (fun _ hS=>HE1.out.cells.1) ?_
 clear HK K
 try simp only [Act.put,sx]
 refine anyD_one (i:=10) rfl rfl (by kernel_rfl) (fun K HK=>?_)
 go_simp
 refine (members_any vs vh C.sts _ _ (HN.out.sts.below HE1.out.below) (by have:=HN.out.len; omega) (bset_u32 _ (by have:=HN.out.len; omega))).mono ?_
 rintro e w2 ⟨hb2,v2,rfl,ho2⟩
 have HE2:=Lib.hid (HE1.out.kept hb2)
 have HB2:=Lib.hid hb2
 rw [memb_kids] at ho2
 have HL2:Hid (LiAt (fun b=>b ≠ w0.heap.size) w2 v2 (kids C.sts p)):=Lib.hid (LiAt.of_own ho2 fun b hb=>by have:=HE1.out.lt; omega)
 have HKL:=Lib.hid (kids_len C.sts p)
 generalize hKS:kids C.sts p=L at *
 obtain ⟨mA,mcap,rfl,hmc⟩:=RowsAt.slice HL2.out
 clear hb2 ho2
 go_simp
 refine HK.out _ _ (fun _ hS=>HE2.out.cells.1) ?_
 clear HK K
 try simp only [Act.put,sx]
 refine anyD_t 11 (.int .i64 (L.length:Int)) ?_
 try simp only [Act.put,sx]
 refine anyD_done (by kernel_rfl) ?_
 have HG2:Hid (w.grownBy w2 (some w0.heap.size)):=Lib.hid (gr_below (gr_below (gr_drew gr_refl) HB1.out) HB2.out)
 have hll:L.length≤24:=by have:=HKL.out; have:=HN.out.len; omega
 go_wp2_with fail
 go_loopw [18] (fun i wr=>∃ (k:Nat) (st2:Bs),k≤L.length∧i=.int .i64 (k:Int)∧Hid (EAt w0 t vs vh C.sts.length st2 wr)∧Hid (w.grownBy wr (some w0.heap.size))∧Hid (cntU C.sts.length st2.b≤f)∧Hid (LiAt (fun b=>b ≠ w0.heap.size) wr (.slice mA L.length mcap) L)∧Hid (R=(L.drop k).foldl (kidStep (tB C.sts) (pB C.sts H f)) st2)) (fun i _=>L.length - (intOf i).toNat)
 case atStart=>exact ⟨0,st,Nat.zero_le _,rfl,HE2,HG2,Lib.hid hc,HL2,HR⟩
 case round =>
  clear HE2 HG2 HL2 HR HE HE0 HE1 HB1 HB2
  obtain ⟨k,st2,hk,rfl,HE,HG,HC,HL,HR⟩:=hrel
  obtain ⟨wo,rfl⟩:∃ wo:World,wo=wr:=⟨_,rfl⟩
  by_cases hlt:k < L.length
  · obtain ⟨mb,mo,hmA,hmbl,hmc0,hmne⟩:=(let ⟨_,_,h1,_,h3⟩:=HL.out; by injection h1 with e1 e2 e3; subst e1; exact h3 k _ (List.getElem?_eq_getElem hlt):∃ b o,mA=some ⟨b,o,none⟩∧b < wo.heap.size∧(IntAt wo b (o+k * 1) L[k])∧_)
    subst hmA
    have d0:wo.cell? ⟨mb,mo+k,none⟩=some (.int .i64 L[k]):=by have:=hmc0; unfold IntAt at this; rwa [Nat.mul_one] at this
    have HRK:=Lib.hid (HR.out.trans (drop_fold _ L k hlt st2))
    generalize L[k]=x at *
    have hz:=and_below C.sts st2.a x HN.out.len
    have HED:Hid (EAt w0 t vs vh C.sts.length st2 wo.drew):=Lib.hid HE.out.drew
    have HSD:Hid (wo.drew.cell? ⟨w0.heap.size,2,none⟩=some (.pointer (some ⟨t,0,none⟩))∧wo.drew.cell? ⟨w0.heap.size,3,none⟩=some (.int .u32 ((bset st2.a C.sts.length:Nat):Int))):=Lib.hid ⟨HED.out.cells.1.2.2,HED.out.cells.2.1⟩
    have HGD:Hid (w.grownBy wo.drew (some w0.heap.size)):=Lib.hid (gr_drew HG.out)
    have HLD:Hid (LiAt (fun b=>b ≠ w0.heap.size) wo.drew (.slice (some ⟨mb,mo,none⟩) L.length mcap) L):=Lib.hid (HL.out.below (Below.refl _ _).drew)
    have HZ:=Lib.hid hz
    clear hmc0 hmne hz HE HG HL HR
    go_wp2_with fail
    refine anyD_start (fun W=>W.cell? ⟨w0.heap.size,2,none⟩=some (.pointer (some ⟨t,0,none⟩))∧W.cell? ⟨w0.heap.size,3,none⟩=some (.int .u32 ((bset st2.a C.sts.length:Nat):Int))) (fun i=>[].contains i) (by kernel_rfl) ?_
    refine anyD_t 0 (.pointer (some ⟨w0.heap.size,0,none⟩)) ?_
    try simp only [Act.put,sx]
    refine anyD_t 1 (.pointer (some ⟨w0.heap.size,0,none⟩)) ?_
    try simp only [Act.put,sx]
    refine anyD_t 2 (.pointer (some ⟨w0.heap.size,3,none⟩)) ?_
    try simp only [Act.put,sx]
    refine anyD_l 3 (.int .u32 ((bset st2.a C.sts.length:Nat):Int)) (HSD.out) ?_
    try simp only [Act.put,sx]
    refine anyD_t 4 (.pointer (some ⟨w0.heap.size,0,none⟩)) ?_
    try simp only [Act.put,sx]
    refine anyD_t 5 (.pointer (some ⟨w0.heap.size,0,none⟩)) ?_
    try simp only [Act.put,sx]
    refine anyD_t 6 (.pointer (some ⟨w0.heap.size,2,none⟩)) ?_
    try simp only [Act.put,sx]
    refine anyD_l 7 (.pointer (some ⟨t,0,none⟩)) (HSD.out) ?_
    try simp only [Act.put,sx]
    refine anyD_t 8 (.int .i64 x) ?_
    try simp only [Act.put,sx]
    refine anyD_one (i:=9) rfl rfl (by kernel_rfl) (fun K HK=>?_)
    go_simp
    refine (below_any t x C _ (HN.out.tree.below HED.out.below) (by have:=HN.out.len; omega) HN.out.root).mono ?_
    rintro e w3 ⟨rfl,rfl⟩
    skip
    go_simp
    refine HK.out _ _ (fun _ hS=>hS) ?_
    clear HK K
    try simp only [Act.put,sx]
    refine anyD_t 10 (.int .u32 (bits .and .u32 ((bset st2.a C.sts.length:Nat):Int) ((belowN C.sts x:Nat):Int))) ?_
    try simp only [Act.put,sx]
    refine anyD_t 11 (.bool (bits .and .u32 ((bset st2.a C.sts.length:Nat):Int) ((belowN C.sts x:Nat):Int) == 0)) ?_
    try simp only [Act.put,sx]
    refine anyD_done (by kernel_rfl) ?_
    rw [HZ.out]
    cases hs:someP C.sts st2.a x with
    | true =>
     have HS:Hid (kidStep (tB C.sts) (pB C.sts H f) st2 x=st2):=Lib.hid (by unfold kidStep tB; rw [if_pos hs])
     rw [HS.out] at HRK
     clear hs
     go_wp2
     go_roundw
     case rel=>exact ⟨k+1,st2,by omega,by go_num,HED,HGD,HC,HLD,HRK⟩
     case measure=>simp [intOf]; omega
    | false =>
     have HS:Hid (kidStep (tB C.sts) (pB C.sts H f) st2 x=pB C.sts H f st2 x):=Lib.hid (by unfold kidStep tB; rw [if_neg (by rw [hs]; simp)])
     rw [HS.out] at HRK
     clear hs
     go_wp2_with fail
     refine (HF.out x st2 _ HED.out HC.out).mono ?_
     rintro e w4 ⟨rfl,hg4,he4⟩
     have HE4:=Lib.hid he4
     have HG4:=Lib.hid (HGD.out.trans hg4)
     have HL4:=Lib.hid (HLD.out.grown hg4 fun b _ hb h=>hb (by injection h))
     have HC4:Hid (cntU C.sts.length (pB C.sts H f st2 x).b≤f):=Lib.hid (Nat.le_trans (cntU_le _ (pB_up C.sts H f st2 x)) HC.out)
     clear hg4 he4
     go_wp2
     go_roundw
     case rel=>exact ⟨k+1,pB C.sts H f st2 x,by omega,by go_num,HE4,HG4,HC4,HL4,HRK⟩
     case measure=>simp [intOf]; omega
  · obtain rfl:k=L.length:=by omega
    have hR:=HR.out
    rw [List.drop_length] at hR
    have HRR:=Lib.hid hR
    clear hR
    go_wp2_with fail
    go_end0
    exact ⟨rfl,HG.out,by rw [HRR.out]; exact HE.out⟩

theorem ups_isSt {S:List St} {s q:Int} (h:q ∈ ups S s):isSt S q=true:=by
 have hr:=cIn_range (ups_in h)
 have:=isSt_iff.1 hr.2.2
 exact isSt_iff.2 ⟨hr.1,by omega⟩
set_option maxHeartbeats 4000000 in
set_option maxRecDepth 100000 in
theorem addAbove_any {w0:World} {t:Nat} {vs vh:Value} {C:Ch} {H:List Nat} {f:Nat} (hN:Ent w0 t vs vh C H) (hF:BelowOK w0 t vs vh C H f) (s top:Int) (st:Bs) (w:World) (hE:EAt w0 t vs vh C.sts.length st w) (hc:cntU C.sts.length st.b≤f) :
 Calls Tryz.prog 49 #[.pointer (some ⟨w0.heap.size,0,none⟩),.int .i64 s,.int .i64 top] w (EnPost w0 t vs vh C.sts.length (aboveW C.sts (tB C.sts) adB (pB C.sts H f) top st s) w):=by
 have HN:=Lib.hid hN
 have HK:=Lib.hid (fun p st w=>addKids_any hN hF p st w)
 have HE:=Lib.hid hE
 have HU:=Lib.hid (upsT_any t s C w (hN.tree.below hE.below) (by have:=hN.len; omega) hN.root)
 have HR:Hid (aboveW C.sts (tB C.sts) adB (pB C.sts H f) top st s=upW C.sts (tB C.sts) adB (pB C.sts H f) top (ups C.sts s) st):=Lib.hid rfl
 have hUL:=ups_short C.sts s
 have HIS:=Lib.hid (fun q (h:q ∈ ups C.sts s)=>ups_isSt h)
 have hlen:=hN.len
 obtain ⟨sA,scap,rfl,hscap⟩:=RowsAt.slice hN.sts
 obtain ⟨c20,c21,c22⟩:=hE.cells.1
 generalize aboveW C.sts (tB C.sts) adB (pB C.sts H f) top st s=R at *
 generalize ups C.sts s=L at *
 clear hN hF hE
 go_enter Tryz.func49,Tryz.ntmps49
 go_wp2_with fail
 refine HU.out.mono ?_
 rintro e w1 ⟨hb1,v1,rfl,ho1⟩
 have HE1:=Lib.hid (HE.out.kept hb1)
 have HG1:Hid (w.grownBy w1 (some w0.heap.size)):=Lib.hid (only_of_below hb1 _)
 have HL1:Hid (LiAt (fun b=>b ≠ w0.heap.size) w1 v1 L):=Lib.hid (LiAt.of_own ho1 fun b hb=>by have:=HE.out.lt; omega)
 obtain ⟨mA,mcap,rfl,hmc⟩:=RowsAt.slice HL1.out
 clear hb1 ho1 HU c20 c21 c22
 go_wp2_with fail
 go_loopw [15] (fun i wr=>∃ (k:Nat) (st2:Bs),k≤L.length∧i=.int .i64 (k:Int)∧Hid (EAt w0 t (.slice sA C.sts.length scap) vh C.sts.length st2 wr)∧Hid (w.grownBy wr (some w0.heap.size))∧Hid (cntU C.sts.length st2.b≤f)∧Hid (LiAt (fun b=>b ≠ w0.heap.size) wr (.slice mA L.length mcap) L)∧Hid (R=upW C.sts (tB C.sts) adB (pB C.sts H f) top (L.drop k) st2)) (fun i _=>L.length - (intOf i).toNat)
 case atStart=>exact ⟨0,st,Nat.zero_le _,rfl,HE1,HG1,Lib.hid hc,HL1,HR⟩
 case round =>
  clear HE1 HG1 HL1 HR HE
  obtain ⟨k,st2,hk,rfl,HE,HG,HC,HL,HR⟩:=hrel
  obtain ⟨wo,rfl⟩:∃ wo:World,wo=wr:=⟨_,rfl⟩
  by_cases hlt:k < L.length
  · obtain ⟨mb,mo,hmA,hmbl,hmc0,hmne⟩:=(let ⟨_,_,h1,_,h3⟩:=HL.out; by injection h1 with e1 e2 e3; subst e1; exact h3 k _ (List.getElem?_eq_getElem hlt):∃ b o,mA=some ⟨b,o,none⟩∧b < wo.heap.size∧(IntAt wo b (o+k * 1) L[k])∧_)
    subst hmA
    have d0:wo.cell? ⟨mb,mo+k,none⟩=some (.int .i64 L[k]):=by have:=hmc0; unfold IntAt at this; rwa [Nat.mul_one] at this
    have hRK:=HR.out
    rw [List.drop_eq_getElem_cons hlt,upW] at hRK
    have hisx:=HIS.out L[k] (List.getElem_mem hlt)
    obtain ⟨j,hj,hjl⟩:=isSt_nat hisx
    rw [hj] at d0 hRK hisx
    have HISJ:=Lib.hid hisx
    clear hmc0 hmne hj HR hisx
    by_cases htop:(j:Int)=top
    · rw [if_pos htop] at hRK
      have HRR:=Lib.hid hRK
      have ht2:((j:Int) == top)=true:=by simpa using htop
      clear hRK htop
      go_wp2_with fail
      go_end0
      exact ⟨rfl,HG.out,by rw [HRR.out]; exact HE.out⟩
    · rw [if_neg htop] at hRK
      have ht2:((j:Int) == top)=false:=by simpa using htop
      have HRK:=Lib.hid hRK
      have HOR:=Lib.hid (or_add st2.a C.sts.length j (by omega) hjl)
      have HED:Hid (EAt w0 t (.slice sA C.sts.length scap) vh C.sts.length st2 wo.drew):=Lib.hid HE.out.drew
      have HSD:Hid (wo.drew.cell? ⟨w0.heap.size,3,none⟩=some (.int .u32 ((bset st2.a C.sts.length:Nat):Int))):=Lib.hid HED.out.cells.2.1
      have HGD:Hid (w.grownBy wo.drew (some w0.heap.size)):=Lib.hid (gr_drew HG.out)
      have HLD:Hid (LiAt (fun b=>b ≠ w0.heap.size) wo.drew (.slice (some ⟨mb,mo,none⟩) L.length mcap) L):=Lib.hid (HL.out.below (Below.refl _ _).drew)
      have HFZ:Hid (wo.frozen? ⟨w0.heap.size,3,none⟩=false):=Lib.hid (HE.out.blk.frozen 3)
      have HC3:Hid (wo.cell? ⟨w0.heap.size,3,none⟩=some (.int .u32 ((bset st2.a C.sts.length:Nat):Int))):=Lib.hid HE.out.cells.2.1
      clear htop hRK
      go_wp2_with fail
      have hfz:=HFZ.out
      have hc3:=HC3.out
      refine anyD_start (fun W=>W.cell? ⟨w0.heap.size,3,none⟩=some (.int .u32 ((bset st2.a C.sts.length:Nat):Int))) (fun i=>[9].contains i) (by kernel_rfl) ?_
      refine anyD_t 0 (.pointer (some ⟨w0.heap.size,0,none⟩)) ?_
      try simp only [Act.put,sx]
      refine anyD_t 1 (.pointer (some ⟨w0.heap.size,0,none⟩)) ?_
      try simp only [Act.put,sx]
      refine anyD_t 2 (.pointer (some ⟨w0.heap.size,3,none⟩)) ?_
      try simp only [Act.put,sx]
      refine anyD_load (i:=3) (v:=.int .u32 ((bset st2.a C.sts.length:Nat):Int)) rfl (by kernel_rfl) (by kernel_rfl) (by kernel_rfl) (by kernel_rfl) (fun _ _ _ h=>h) (Or.inl ⟨by kernel_rfl,fun w hS=>by have c0:=hS; go_simp⟩) (HSD.out) ?_
      try simp only [Act.put,sx]
      refine anyD_t 4 (.int .i64 (j:Int)) ?_
      try simp only [Act.put,sx]
      refine anyD_one (i:=5) rfl rfl (by kernel_rfl) (fun K HK=>?_)
      go_simp
      refine (bitS_any j (by have:=HN.out.len; omega) _).mono ?_
      rintro e w5 ⟨rfl,rfl⟩
      skip
      go_simp
      refine HK.out _ _ (fun _ hS=>hS) ?_
      clear HK K
      try simp only [Act.put,sx]
      refine anyD_take (i:=6) (v:=.int .u32 ((bset (addS st2.a (j:Int)) C.sts.length:Nat):Int)) rfl (by kernel_rfl) (by kernel_rfl) (by kernel_rfl) (fun _ _ _ h=>h) (Or.inl ⟨by kernel_rfl,fun w=>by go_simp; exact HOR.out⟩) ?_
      try simp only [Act.put,sx]
      refine anyD_t 7 (.pointer (some ⟨w0.heap.size,0,none⟩)) ?_
      try simp only [Act.put,sx]
      refine anyD_t 8 (.pointer (some ⟨w0.heap.size,3,none⟩)) ?_
      try simp only [Act.put,sx]
      refine anyD_one (i:=9) rfl rfl (by kernel_rfl) (fun K HK=>?_)
      go_simp
      refine HK.out _ _ (fun h=>absurd h (by decide)) ?_
      clear HK K
      try simp only [Act.put,sx]
      refine anyD_done (by kernel_rfl) ?_
      have HE5:Hid (EAt w0 t (.slice sA C.sts.length scap) vh C.sts.length (adB st2 (j:Int)) (wo.setCell ⟨w0.heap.size,3,none⟩ (.int .u32 ((bset (addS st2.a (j:Int)) C.sts.length:Nat):Int))).drew):=Lib.hid (HE.out.put (j:Int)).drew
      have HG5:Hid (w.grownBy (wo.setCell ⟨w0.heap.size,3,none⟩ (.int .u32 ((bset (addS st2.a (j:Int)) C.sts.length:Nat):Int))).drew (some w0.heap.size)):=Lib.hid (gr_drew (gr_set HG.out 3 _))
      have HL5:Hid (LiAt (fun b=>b ≠ w0.heap.size) (wo.setCell ⟨w0.heap.size,3,none⟩ (.int .u32 ((bset (addS st2.a (j:Int)) C.sts.length:Nat):Int))).drew (.slice (some ⟨mb,mo,none⟩) L.length mcap) L):=Lib.hid (HL.out.grown (gr_drew (gr_set gr_refl 3 _)) fun b _ hb h=>hb (by injection h))
      obtain ⟨b,o,cap,vi,ve,vx,hsl,hcc,hbl,hst,hhas⟩:=HN.out.sts.st hjl
      injection hsl with e1 e2 e3
      subst e1; subst e3
      generalize (wo.setCell ⟨w0.heap.size,3,none⟩ (.int .u32 ((bset (addS st2.a (j:Int)) C.sts.length:Nat):Int))).drew=w5 at *
      obtain ⟨q0,q1,q2,q3,q4⟩:=hst.below HE5.out.below hbl
      have p0:=HE5.out.cells.1.1
      have HUS:Hid (upStep C.sts (tB C.sts) adB (pB C.sts H f) st2 (j:Int)=if (stAt C.sts (j:Int)).kind=3 then kidsW C.sts (tB C.sts) (pB C.sts H f) (j:Int) (adB st2 (j:Int)) else adB st2 (j:Int)):=Lib.hid rfl
      generalize upStep C.sts (tB C.sts) adB (pB C.sts H f) st2 (j:Int)=U at *
      generalize (stAt C.sts (j:Int)).kind=K at *
      clear hst hhas hfz hc3 q1 q2 q3 q4 HFZ HC3 HSD HED HGD HLD HOR HE HG HL
      by_cases hk3:K=3
      · have hU:=HUS.out
        rw [if_pos hk3] at hU
        have HUU:=Lib.hid hU
        have hk2:(K == 3)=true:=by simpa using hk3
        clear hU hk3 HUS
        go_wp2_with fail
        refine (HK.out (j:Int) _ _ HISJ.out HE5.out HC.out).mono ?_
        rintro e w6 ⟨rfl,hg6,he6⟩
        rw [← HUU.out] at he6
        have HE6:=Lib.hid he6
        have HG6:=Lib.hid (HG5.out.trans hg6)
        have HL6:=Lib.hid (HL5.out.grown hg6 fun b _ hb h=>hb (by injection h))
        have HC6:Hid (cntU C.sts.length U.b≤f):=Lib.hid (by rw [HUU.out]; exact Nat.le_trans (cntU_le _ (kids_up (pB_up C.sts H f) (j:Int) (adB st2 (j:Int)))) HC.out)
        clear hg6 he6
        go_wp2
        go_roundw
        case rel=>exact ⟨k+1,U,by omega,by go_num,HE6,HG6,HC6,HL6,HRK⟩
        case measure=>simp [intOf]; omega
      · have hU:=HUS.out
        rw [if_neg hk3] at hU
        have HUU:=Lib.hid hU
        have hk2:(K == 3)=false:=by simpa using hk3
        clear hU hk3 HUS
        go_wp2_with fail
        go_roundw
        case rel=>exact ⟨k+1,U,by omega,by go_num,by rw [HUU.out]; exact HE5,HG5,by rw [HUU.out]; exact HC,HL5,HRK⟩
        case measure=>simp [intOf]; omega
  · obtain rfl:k=L.length:=by omega
    have hR:=HR.out
    rw [List.drop_length,upW] at hR
    have HRR:=Lib.hid hR
    clear hR
    go_wp2_with fail
    go_end0
    exact ⟨rfl,HG.out,by rw [HRR.out]; exact HE.out⟩
set_option maxHeartbeats 4000000 in
set_option maxRecDepth 100000 in
theorem addAll_any {w0:World} {t:Nat} {vs vh:Value} {C:Ch} {H:List Nat} {f:Nat} (hN:Ent w0 t vs vh C H) (hF:BelowOK w0 t vs vh C H f) (v:Value) (l:List Int) (top:Int) (st:Bs) (w:World) (hE:EAt w0 t vs vh C.sts.length st w) (hc:cntU C.sts.length st.b≤f) (hL:LiAt (fun b=>b ≠ w0.heap.size) w v l) (hll:l.length≤1000) :
 Calls Tryz.prog 89 #[.pointer (some ⟨w0.heap.size,0,none⟩),v,.int .i64 top] w (EnPost w0 t vs vh C.sts.length (allW C.sts (tB C.sts) adB (pB C.sts H f) l top st) w):=by
 have HA:=Lib.hid (fun s top st w=>addAbove_any hN hF s top st w)
 have HF:=Lib.hid hF
 have HE:=Lib.hid hE
 have HG:Hid (w.grownBy w (some w0.heap.size)):=Lib.hid gr_refl
 have HR:Hid (allW C.sts (tB C.sts) adB (pB C.sts H f) l top st=l.foldl (aboveW C.sts (tB C.sts) adB (pB C.sts H f) top) (l.foldl (pB C.sts H f) st)):=Lib.hid rfl
 obtain ⟨lA,lcap,rfl,hlc⟩:=RowsAt.slice hL
 have HL:=Lib.hid hL
 generalize allW C.sts (tB C.sts) adB (pB C.sts H f) l top st=R at *
 clear hN hF hE hL
 go_enter Tryz.func89,Tryz.ntmps89
 go_wp2_with fail
 go_loopw [12] (fun i wr=>∃ (k:Nat) (st2:Bs),k≤l.length∧i=.int .i64 (k:Int)∧Hid (EAt w0 t vs vh C.sts.length st2 wr)∧Hid (w.grownBy wr (some w0.heap.size))∧Hid (cntU C.sts.length st2.b≤f)∧Hid (LiAt (fun b=>b ≠ w0.heap.size) wr (.slice lA l.length lcap) l)∧Hid (R=l.foldl (aboveW C.sts (tB C.sts) adB (pB C.sts H f) top) ((l.drop k).foldl (pB C.sts H f) st2))) (fun i _=>l.length - (intOf i).toNat)
 case atStart=>exact ⟨0,st,Nat.zero_le _,rfl,HE,HG,Lib.hid hc,HL,HR⟩
 case round =>
  clear HE HG HL HR hc
  obtain ⟨k,st2,hk,rfl,HE,HG,HC,HL,HR⟩:=hrel
  obtain ⟨wo,rfl⟩:∃ wo:World,wo=wr:=⟨_,rfl⟩
  by_cases hlt:k < l.length
  · obtain ⟨mb,mo,hmA,hmbl,hmc0,hmne⟩:=(let ⟨_,_,h1,_,h3⟩:=HL.out; by injection h1 with e1 e2 e3; subst e1; exact h3 k _ (List.getElem?_eq_getElem hlt):∃ b o,lA=some ⟨b,o,none⟩∧b < wo.heap.size∧(IntAt wo b (o+k * 1) l[k])∧_)
    subst hmA
    have d0:wo.cell? ⟨mb,mo+k,none⟩=some (.int .i64 l[k]):=by have:=hmc0; unfold IntAt at this; rwa [Nat.mul_one] at this
    have hRK:=HR.out
    rw [List.drop_eq_getElem_cons hlt,List.foldl_cons] at hRK
    have HRK:=Lib.hid hRK
    generalize l[k]=x at *
    clear hmc0 hmne hRK HR
    go_wp2_with fail
    refine (HF.out x st2 _ HE.out HC.out).mono ?_
    rintro e w6 ⟨rfl,hg6,he6⟩
    have HE6:=Lib.hid he6
    have HG6:=Lib.hid (HG.out.trans hg6)
    have HL6:=Lib.hid (HL.out.grown hg6 fun b _ hb h=>hb (by injection h))
    have HC6:Hid (cntU C.sts.length (pB C.sts H f st2 x).b≤f):=Lib.hid (Nat.le_trans (cntU_le _ (pB_up C.sts H f st2 x)) HC.out)
    clear hg6 he6
    go_wp2
    go_roundw
    case rel=>exact ⟨k+1,_,by omega,by go_num,HE6,HG6,HC6,HL6,HRK⟩
    case measure=>simp [intOf]; omega
  · obtain rfl:k=l.length:=by omega
    have hR:=HR.out
    rw [List.drop_length,List.foldl_nil] at hR
    have HRR:=Lib.hid hR
    clear hR
    go_wp2_with fail
    go_loopw [22] (fun i wr=>∃ (k:Nat) (st2:Bs),k≤l.length∧i=.int .i64 (k:Int)∧Hid (EAt w0 t vs vh C.sts.length st2 wr)∧Hid (w.grownBy wr (some w0.heap.size))∧Hid (cntU C.sts.length st2.b≤f)∧Hid (LiAt (fun b=>b ≠ w0.heap.size) wr (.slice lA l.length lcap) l)∧Hid (R=(l.drop k).foldl (aboveW C.sts (tB C.sts) adB (pB C.sts H f) top) st2)) (fun i _=>l.length - (intOf i).toNat)
    case atStart=>exact ⟨0,st2,Nat.zero_le _,rfl,HE,HG,HC,HL,HRR⟩
    case round =>
     clear HE HG HL HR HRR HC hk hlt
     obtain ⟨k,st2,hk,rfl,HE,HG,HC,HL,HR⟩:=hrel
     obtain ⟨wo,rfl⟩:∃ wo:World,wo=wr:=⟨_,rfl⟩
     by_cases hlt:k < l.length
     · obtain ⟨mb,mo,hmA,hmbl,hmc0,hmne⟩:=(let ⟨_,_,h1,_,h3⟩:=HL.out; by injection h1 with e1 e2 e3; subst e1; exact h3 k _ (List.getElem?_eq_getElem hlt):∃ b o,lA=some ⟨b,o,none⟩∧b < wo.heap.size∧(IntAt wo b (o+k * 1) l[k])∧_)
       subst hmA
       have d0:wo.cell? ⟨mb,mo+k,none⟩=some (.int .i64 l[k]):=by have:=hmc0; unfold IntAt at this; rwa [Nat.mul_one] at this
       have hRK:=HR.out
       rw [List.drop_eq_getElem_cons hlt,List.foldl_cons] at hRK
       have HRK:=Lib.hid hRK
       generalize l[k]=x at *
       clear hmc0 hmne hRK HR
       go_wp2_with fail
       refine (HA.out x top st2 _ HE.out HC.out).mono ?_
       rintro e w6 ⟨rfl,hg6,he6⟩
       have HE6:=Lib.hid he6
       have HG6:=Lib.hid (HG.out.trans hg6)
       have HL6:=Lib.hid (HL.out.grown hg6 fun b _ hb h=>hb (by injection h))
       have HC6:Hid (cntU C.sts.length (aboveW C.sts (tB C.sts) adB (pB C.sts H f) top st2 x).b≤f):=Lib.hid (Nat.le_trans (cntU_le _ (upW_up (pB_up C.sts H f) top (ups C.sts x) st2)) HC.out)
       clear hg6 he6
       go_wp2
       go_roundw
       case rel=>exact ⟨k+1,_,by omega,by go_num,HE6,HG6,HC6,HL6,HRK⟩
       case measure=>simp [intOf]; omega
     · obtain rfl:k=l.length:=by omega
       have hR:=HR.out
       rw [List.drop_length,List.foldl_nil] at hR
       have HRR:=Lib.hid hR
       clear hR
       go_wp2_with fail
       go_end0
       exact ⟨rfl,HG.out,by rw [HRR.out]; exact HE.out⟩

theorem list_in {w0 w:World} {v:Value} {L:List Int} (h:ListAt w0 v L) (hb:Below w0.heap.size w0 w):LiAt (fun b=>b ≠ w0.heap.size) w v L :=
 ((LiAt.of_list (K:=fun b=>b < w0.heap.size) h fun b hb=>hb).below hb).mono fun b _ hb=>by omega
set_option maxHeartbeats 4000000 in
set_option maxRecDepth 100000 in
theorem addBelow_skip {w0:World} {t:Nat} {vs vh:Value} {C:Ch} {H:List Nat} (hN:Ent w0 t vs vh C H) (s:Int) (st:Bs) (w:World) (hE:EAt w0 t vs vh C.sts.length st w) (hs:isSt C.sts s=false ∨ st.b s.toNat=true) :
 Calls Tryz.prog 47 #[.pointer (some ⟨w0.heap.size,0,none⟩),.int .i64 s] w (EnPost w0 t vs vh C.sts.length st w):=by
 have HN:=Lib.hid hN
 have HE:=Lib.hid hE
 obtain ⟨hA,hcap,rfl,hhcap⟩:=RowsAt.slice hN.hist
 have hlen:=hN.len
 clear hN hE
 cases his:isSt C.sts s with
 | false =>
  have HIS:=Lib.hid his
  clear hs his
  go_enter Tryz.func47,Tryz.ntmps47
  go_wp2_with fail
  refine anyD_start (fun W=>W.cell? ⟨w0.heap.size,0,none⟩=some vs∧W.cell? ⟨w0.heap.size,1,none⟩=some (.slice hA H.length hcap)∧W.cell? ⟨w0.heap.size,4,none⟩=some (.int .u32 ((bset st.b C.sts.length:Nat):Int))) (fun i=>[].contains i) (by kernel_rfl) ?_
  have HED:Hid (EAt w0 t vs (.slice hA H.length hcap) C.sts.length st w.drew):=Lib.hid HE.out.drew
  have HSD:=Lib.hid (show _∧_∧_ from ⟨HED.out.cells.1.1,HED.out.cells.1.2.1,HED.out.cells.2.2⟩)
  refine anyD_t 0 (.pointer (some ⟨w0.heap.size,0,none⟩)) ?_
  try simp only [Act.put,sx]
  refine anyD_t 1 (.pointer (some ⟨w0.heap.size,0,none⟩)) ?_
  try simp only [Act.put,sx]
  refine anyD_t 2 (.pointer (some ⟨w0.heap.size,0,none⟩)) ?_
  try simp only [Act.put,sx]
  refine anyD_l 3 (.agg #[vs,.slice hA H.length hcap]) (HSD.out) ?_
  try simp only [Act.put,sx]
  refine anyD_t 4 (.int .i64 s) ?_
  try simp only [Act.put,sx]
  refine anyD_one (i:=5) rfl rfl (by kernel_rfl) (fun K HK=>?_)
  go_simp
  refine (hasS_any vs (.slice hA H.length hcap) C.sts s _ (HN.out.sts.below HED.out.below) (by have:=HN.out.len; omega)).mono ?_
  rintro e w1 ⟨rfl,hb1⟩
  have HE1:=Lib.hid (HED.out.kept hb1)
  have HG1:Hid (w.grownBy w1 (some w0.heap.size)):=Lib.hid (gr_below (gr_drew gr_refl) hb1)
  rw [HIS.out]
  clear hb1
  go_simp
  refine HK.out _ _ (fun _ hS=>⟨HE1.out.cells.1.1,HE1.out.cells.1.2.1,HE1.out.cells.2.2⟩) ?_
  clear HK K
  try simp only [Act.put,sx]
  refine anyD_t 6 (.bool true) ?_
  try simp only [Act.put,sx]
  refine anyD_t 7 (.bool true) ?_
  try simp only [Act.put,sx]
  refine anyD_take (i:=8) (v:=undef) rfl (by kernel_rfl) (by kernel_rfl) (by kernel_rfl) (fun _ _ _ h=>h) (Or.inr ⟨by kernel_rfl,rfl⟩) ?_
  try simp only [Act.put,sx]
  refine anyD_take (i:=9) (v:=undef) rfl (by kernel_rfl) (by kernel_rfl) (by kernel_rfl) (fun _ _ _ h=>h) (Or.inr ⟨by kernel_rfl,rfl⟩) ?_
  try simp only [Act.put,sx]
  refine anyD_take (i:=10) (v:=undef) rfl (by kernel_rfl) (by kernel_rfl) (by kernel_rfl) (fun _ _ _ h=>h) (Or.inr ⟨by kernel_rfl,rfl⟩) ?_
  try simp only [Act.put,sx]
  refine anyD_take (i:=11) (v:=undef) rfl (by kernel_rfl) (by kernel_rfl) (by kernel_rfl) (fun _ _ _ h=>h) (Or.inr ⟨by kernel_rfl,rfl⟩) ?_
  try simp only [Act.put,sx]
  refine anyD_take (i:=12) (v:=undef) rfl (by kernel_rfl) (by kernel_rfl) (by kernel_rfl) (fun _ _ _ h=>h) (Or.inr ⟨by kernel_rfl,rfl⟩) ?_
  try simp only [Act.put,sx]
  refine anyD_take (i:=13) (v:=undef) rfl (by kernel_rfl) (by kernel_rfl) (by kernel_rfl) (fun _ _ _ h=>h) (Or.inr ⟨by kernel_rfl,rfl⟩) ?_
  try simp only [Act.put,sx]
  refine anyD_take (i:=14) (v:=undef) rfl (by kernel_rfl) (by kernel_rfl) (by kernel_rfl) (fun _ _ _ h=>h) (Or.inr ⟨by kernel_rfl,rfl⟩) ?_
  try simp only [Act.put,sx]
  refine anyD_take (i:=15) (v:=undef) rfl (by kernel_rfl) (by kernel_rfl) (by kernel_rfl) (fun _ _ _ h=>h) (Or.inr ⟨by kernel_rfl,rfl⟩) ?_
  try simp only [Act.put,sx]
  refine anyD_t 16 (.bool true) ?_
  try simp only [Act.put,sx]
  refine anyD_done (by kernel_rfl) ?_
  go_wp2_with fail
  go_end0
  exact ⟨rfl,HG1.out,HE1.out⟩
 | true =>
  obtain ⟨k,rfl,hk⟩:=isSt_nat his
  have hm:st.b k=true:=by rcases hs with h | h; (rw [his] at h; cases h); exact h
  have HIS:=Lib.hid his
  have HTS:=Lib.hid ((and_test st.b C.sts.length k (by omega) hk).2)
  rw [hm] at HTS
  clear hs his hm
  go_enter Tryz.func47,Tryz.ntmps47
  go_wp2_with fail
  refine anyD_start (fun W=>W.cell? ⟨w0.heap.size,0,none⟩=some vs∧W.cell? ⟨w0.heap.size,1,none⟩=some (.slice hA H.length hcap)∧W.cell? ⟨w0.heap.size,4,none⟩=some (.int .u32 ((bset st.b C.sts.length:Nat):Int))) (fun i=>[].contains i) (by kernel_rfl) ?_
  have HED:Hid (EAt w0 t vs (.slice hA H.length hcap) C.sts.length st w.drew):=Lib.hid HE.out.drew
  have HSD:=Lib.hid (show _∧_∧_ from ⟨HED.out.cells.1.1,HED.out.cells.1.2.1,HED.out.cells.2.2⟩)
  refine anyD_t 0 (.pointer (some ⟨w0.heap.size,0,none⟩)) ?_
  try simp only [Act.put,sx]
  refine anyD_t 1 (.pointer (some ⟨w0.heap.size,0,none⟩)) ?_
  try simp only [Act.put,sx]
  refine anyD_t 2 (.pointer (some ⟨w0.heap.size,0,none⟩)) ?_
  try simp only [Act.put,sx]
  refine anyD_l 3 (.agg #[vs,.slice hA H.length hcap]) (HSD.out) ?_
  try simp only [Act.put,sx]
  refine anyD_t 4 (.int .i64 (k:Int)) ?_
  try simp only [Act.put,sx]
  refine anyD_one (i:=5) rfl rfl (by kernel_rfl) (fun K HK=>?_)
  go_simp
  refine (hasS_any vs (.slice hA H.length hcap) C.sts (k:Int) _ (HN.out.sts.below HED.out.below) (by have:=HN.out.len; omega)).mono ?_
  rintro e w1 ⟨rfl,hb1⟩
  have HE1:=Lib.hid (HED.out.kept hb1)
  have HG1:Hid (w.grownBy w1 (some w0.heap.size)):=Lib.hid (gr_below (gr_drew gr_refl) hb1)
  rw [HIS.out]
  clear hb1
  go_simp
  refine HK.out _ _ (fun _ hS=>⟨HE1.out.cells.1.1,HE1.out.cells.1.2.1,HE1.out.cells.2.2⟩) ?_
  clear HK K
  try simp only [Act.put,sx]
  have HS1:=Lib.hid (show _∧_∧_ from ⟨HE1.out.cells.1.1,HE1.out.cells.1.2.1,HE1.out.cells.2.2⟩)
  refine anyD_t 6 (.bool false) ?_
  try simp only [Act.put,sx]
  refine anyD_t 7 (.bool false) ?_
  try simp only [Act.put,sx]
  refine anyD_t 8 (.pointer (some ⟨w0.heap.size,0,none⟩)) ?_
  try simp only [Act.put,sx]
  refine anyD_t 9 (.pointer (some ⟨w0.heap.size,0,none⟩)) ?_
  try simp only [Act.put,sx]
  refine anyD_t 10 (.pointer (some ⟨w0.heap.size,4,none⟩)) ?_
  try simp only [Act.put,sx]
  refine anyD_l 11 (.int .u32 ((bset st.b C.sts.length:Nat):Int)) (HS1.out) ?_
  try simp only [Act.put,sx]
  refine anyD_t 12 (.int .i64 (k:Int)) ?_
  try simp only [Act.put,sx]
  refine anyD_only (i:=13) rfl (by kernel_rfl) (by kernel_rfl) (fun K HK=>?_)
  go_simp
  refine (bitS_any k (by have:=HN.out.len; omega) _).mono ?_
  rintro e w5 ⟨rfl,rfl⟩
  skip
  go_simp
  refine HK.out _ _ (fun _ hS=>hS) ?_
  clear HK K
  try simp only [Act.put,sx]
  refine anyD_t 14 (.int .u32 (bits .and .u32 ((bset st.b C.sts.length:Nat):Int) ((2:Int) ^ k))) ?_
  try simp only [Act.put,sx]
  refine anyD_take (i:=15) (v:=.bool true) rfl (by kernel_rfl) (by kernel_rfl) (by kernel_rfl) (fun _ _ _ h=>h) (Or.inl ⟨by kernel_rfl,fun w=>by go_simp; simpa using HTS.out⟩) ?_
  try simp only [Act.put,sx]
  refine anyD_t 16 (.bool true) ?_
  try simp only [Act.put,sx]
  refine anyD_done (by kernel_rfl) ?_
  go_wp2_with fail
  go_end0
  exact ⟨rfl,HG1.out,HE1.out⟩
set_option maxHeartbeats 8000000 in
set_option maxRecDepth 100000 in
theorem addBelow_go {w0:World} {t:Nat} {vs vh:Value} {C:Ch} {H:List Nat} {f:Nat} (hN:Ent w0 t vs vh C H) (hF:BelowOK w0 t vs vh C H f) (s:Int) (st:Bs) (w:World) (hE:EAt w0 t vs vh C.sts.length st w) (his:isSt C.sts s=true) (hm:st.b s.toNat=false) (hc:cntU C.sts.length st.b≤f+1) :
 Calls Tryz.prog 47 #[.pointer (some ⟨w0.heap.size,0,none⟩),.int .i64 s] w (EnPost w0 t vs vh C.sts.length (pB C.sts H (f+1) st s) w):=by
 have hR:pB C.sts H (f+1) st s=pB C.sts H (f+1) st s:=rfl
 conv at hR=>rhs; rw [pB,if_neg (show ¬ (isSt C.sts s=false ∨ st.b s.toNat=true) by rw [his,hm]; simp)]
 obtain ⟨k,rfl,hk⟩:=isSt_nat his
 have hm:st.b k=false:=hm
 have HN:=Lib.hid hN
 have HF:=Lib.hid hF
 have HE:=Lib.hid hE
 have HC:Hid (cntU C.sts.length (addS st.b (k:Int))≤f):=Lib.hid (by have:=cntU_lt C.sts.length hk hm; omega)
 have HIS:=Lib.hid his
 have HTS:=Lib.hid ((and_test st.b C.sts.length k (by have:=hN.len; omega) hk).2)
 rw [hm] at HTS
 have hlen:=hN.len
 obtain ⟨hA,hcap,rfl,hhcap⟩:=RowsAt.slice hN.hist
 obtain ⟨b,o,scap,vi,ve,vx,rfl,hcc,hbl,hst,hhas⟩:=hN.sts.st hk
 have HSTC:=Lib.hid hst
 have HINI:=Lib.hid hhas.1
 have HIL:=Lib.hid (hN.ini _ his)
 obtain ⟨iA,icap,eA,ecap,xA,xcap,rfl,rfl,rfl⟩:=hhas.slices
 generalize pB C.sts H (f+1) st (k:Int)=R at *
 have HR:=Lib.hid hR
 clear hN hF hE his hm hc hst hhas hR
 go_enter Tryz.func47,Tryz.ntmps47
 go_wp2_with fail
 refine anyD_start (fun W=>W.cell? ⟨w0.heap.size,0,none⟩=some (.slice (some ⟨b,o,none⟩) C.sts.length scap)∧W.cell? ⟨w0.heap.size,1,none⟩=some (.slice hA H.length hcap)∧W.cell? ⟨w0.heap.size,4,none⟩=some (.int .u32 ((bset st.b C.sts.length:Nat):Int))) (fun i=>[].contains i) (by kernel_rfl) ?_
 have HED:Hid (EAt w0 t (.slice (some ⟨b,o,none⟩) C.sts.length scap) (.slice hA H.length hcap) C.sts.length st w.drew):=Lib.hid HE.out.drew
 have HSD:=Lib.hid (show _∧_∧_ from ⟨HED.out.cells.1.1,HED.out.cells.1.2.1,HED.out.cells.2.2⟩)
 refine anyD_t 0 (.pointer (some ⟨w0.heap.size,0,none⟩)) ?_
 try simp only [Act.put,sx]
 refine anyD_t 1 (.pointer (some ⟨w0.heap.size,0,none⟩)) ?_
 try simp only [Act.put,sx]
 refine anyD_t 2 (.pointer (some ⟨w0.heap.size,0,none⟩)) ?_
 try simp only [Act.put,sx]
 refine anyD_l 3 (.agg #[.slice (some ⟨b,o,none⟩) C.sts.length scap,.slice hA H.length hcap]) (HSD.out) ?_
 try simp only [Act.put,sx]
 refine anyD_t 4 (.int .i64 (k:Int)) ?_
 try simp only [Act.put,sx]
 refine anyD_one (i:=5) rfl rfl (by kernel_rfl) (fun K HK=>?_)
 go_simp
 refine (hasS_any (.slice (some ⟨b,o,none⟩) C.sts.length scap) (.slice hA H.length hcap) C.sts (k:Int) _ (HN.out.sts.below HED.out.below) (by have:=HN.out.len; omega)).mono ?_
 rintro e w1 ⟨rfl,hb1⟩
 have HE1:=Lib.hid (HED.out.kept hb1)
 have HG1:Hid (w.grownBy w1 (some w0.heap.size)):=Lib.hid (gr_below (gr_drew gr_refl) hb1)
 rw [HIS.out]
 clear hb1
 go_simp
 refine HK.out _ _ (fun _ hS=>⟨HE1.out.cells.1.1,HE1.out.cells.1.2.1,HE1.out.cells.2.2⟩) ?_
 clear HK K
 try simp only [Act.put,sx]
 have HS1:=Lib.hid (show _∧_∧_ from ⟨HE1.out.cells.1.1,HE1.out.cells.1.2.1,HE1.out.cells.2.2⟩)
 refine anyD_t 6 (.bool false) ?_
 try simp only [Act.put,sx]
 refine anyD_t 7 (.bool false) ?_
 try simp only [Act.put,sx]
 refine anyD_t 8 (.pointer (some ⟨w0.heap.size,0,none⟩)) ?_
 try simp only [Act.put,sx]
 refine anyD_t 9 (.pointer (some ⟨w0.heap.size,0,none⟩)) ?_
 try simp only [Act.put,sx]
 refine anyD_t 10 (.pointer (some ⟨w0.heap.size,4,none⟩)) ?_
 try simp only [Act.put,sx]
 refine anyD_l 11 (.int .u32 ((bset st.b C.sts.length:Nat):Int)) (HS1.out) ?_
 try simp only [Act.put,sx]
 refine anyD_t 12 (.int .i64 (k:Int)) ?_
 try simp only [Act.put,sx]
 refine anyD_only (i:=13) rfl (by kernel_rfl) (by kernel_rfl) (fun K HK=>?_)
 go_simp
 refine (bitS_any k (by have:=HN.out.len; omega) _).mono ?_
 rintro e w5 ⟨rfl,rfl⟩
 skip
 go_simp
 refine HK.out _ _ (fun _ hS=>hS) ?_
 clear HK K
 try simp only [Act.put,sx]
 refine anyD_t 14 (.int .u32 (bits .and .u32 ((bset st.b C.sts.length:Nat):Int) ((2:Int) ^ k))) ?_
 try simp only [Act.put,sx]
 refine anyD_take (i:=15) (v:=.bool false) rfl (by kernel_rfl) (by kernel_rfl) (by kernel_rfl) (fun _ _ _ h=>h) (Or.inl ⟨by kernel_rfl,fun w=>by go_simp; simpa using HTS.out⟩) ?_
 try simp only [Act.put,sx]
 refine anyD_t 16 (.bool false) ?_
 try simp only [Act.put,sx]
 refine anyD_done (by kernel_rfl) ?_
 have HOR:=Lib.hid (or_add st.b C.sts.length k (by omega) hk)
 have HFZ:Hid (w1.frozen? ⟨w0.heap.size,4,none⟩=false):=Lib.hid (HE1.out.blk.frozen 4)
 have HC3:Hid (w1.cell? ⟨w0.heap.size,4,none⟩=some (.int .u32 ((bset st.b C.sts.length:Nat):Int))):=Lib.hid HE1.out.cells.2.2
 have HSD:Hid (w1.drew.cell? ⟨w0.heap.size,4,none⟩=some (.int .u32 ((bset st.b C.sts.length:Nat):Int))):=Lib.hid HE1.out.cells.2.2
 clear HE HED
 go_wp2_with fail
 have hfz:=HFZ.out
 have hc3:=HC3.out
 refine anyD_start (fun W=>W.cell? ⟨w0.heap.size,4,none⟩=some (.int .u32 ((bset st.b C.sts.length:Nat):Int))) (fun i=>[9].contains i) (by kernel_rfl) ?_
 refine anyD_t 0 (.pointer (some ⟨w0.heap.size,0,none⟩)) ?_
 try simp only [Act.put,sx]
 refine anyD_t 1 (.pointer (some ⟨w0.heap.size,0,none⟩)) ?_
 try simp only [Act.put,sx]
 refine anyD_t 2 (.pointer (some ⟨w0.heap.size,4,none⟩)) ?_
 try simp only [Act.put,sx]
 refine anyD_load (i:=3) (v:=.int .u32 ((bset st.b C.sts.length:Nat):Int)) rfl (by kernel_rfl) (by kernel_rfl) (by kernel_rfl) (by kernel_rfl) (fun _ _ _ h=>h) (Or.inl ⟨by kernel_rfl,fun w hS=>by have c0:=hS; go_simp⟩) (HSD.out) ?_
 try simp only [Act.put,sx]
 refine anyD_t 4 (.int .i64 (k:Int)) ?_
 try simp only [Act.put,sx]
 refine anyD_one (i:=5) rfl rfl (by kernel_rfl) (fun K HK=>?_)
 go_simp
 refine (bitS_any k (by have:=HN.out.len; omega) _).mono ?_
 rintro e w5 ⟨rfl,rfl⟩
 skip
 go_simp
 refine HK.out _ _ (fun _ hS=>hS) ?_
 clear HK K
 try simp only [Act.put,sx]
 refine anyD_take (i:=6) (v:=.int .u32 ((bset (addS st.b (k:Int)) C.sts.length:Nat):Int)) rfl (by kernel_rfl) (by kernel_rfl) (by kernel_rfl) (fun _ _ _ h=>h) (Or.inl ⟨by kernel_rfl,fun w=>by go_simp; exact HOR.out⟩) ?_
 try simp only [Act.put,sx]
 refine anyD_t 7 (.pointer (some ⟨w0.heap.size,0,none⟩)) ?_
 try simp only [Act.put,sx]
 refine anyD_t 8 (.pointer (some ⟨w0.heap.size,4,none⟩)) ?_
 try simp only [Act.put,sx]
 refine anyD_one (i:=9) rfl rfl (by kernel_rfl) (fun K HK=>?_)
 go_simp
 refine HK.out _ _ (fun h=>absurd h (by decide)) ?_
 clear HK K
 try simp only [Act.put,sx]
 refine anyD_done (by kernel_rfl) ?_
 have HE2:Hid (EAt w0 t (.slice (some ⟨b,o,none⟩) C.sts.length scap) (.slice hA H.length hcap) C.sts.length ⟨st.a,addS st.b (k:Int)⟩ (w1.setCell ⟨w0.heap.size,4,none⟩ (.int .u32 ((bset (addS st.b (k:Int)) C.sts.length:Nat):Int))).drew):=Lib.hid (HE1.out.mark (k:Int)).drew
 have HG2:Hid (w.grownBy (w1.setCell ⟨w0.heap.size,4,none⟩ (.int .u32 ((bset (addS st.b (k:Int)) C.sts.length:Nat):Int))).drew (some w0.heap.size)):=Lib.hid (gr_drew (gr_set HG1.out 4 _))
 generalize (w1.setCell ⟨w0.heap.size,4,none⟩ (.int .u32 ((bset (addS st.b (k:Int)) C.sts.length:Nat):Int))).drew=w2 at *
 obtain ⟨q0,q1,q2,q3,q4⟩:=HSTC.out.below HE2.out.below hbl
 have p0:=HE2.out.cells.1.1
 have hzz:¬ w0.heap.size=w2.heap.size:=by have:=HE2.out.lt; omega
 have hyy:¬ b=w2.heap.size:=by have:=HE2.out.lt; omega
 generalize hKD:(stAt C.sts (k:Int)).kind=KD at *
 generalize hPP:(stAt C.sts (k:Int)).par=P at *
 generalize hIN:(stAt C.sts (k:Int)).ini=IN at *
 generalize (stAt C.sts (k:Int)).ent.length=el at *
 generalize (stAt C.sts (k:Int)).exi.length=xl at *
 obtain ⟨il,hil⟩:∃ il,il=IN.length:=⟨_,rfl⟩
 rw [← hil] at q2
 have HILE:=Lib.hid hil
 have HBOX:Hid (Blk (w2.alloc (stBox KD P (.slice iA il icap) (.slice eA el ecap) (.slice xA xl xcap))) w2.heap.size 63 #[.int .i64 KD,.int .i64 P,.slice iA il icap,.slice eA el ecap,.slice xA xl xcap]):=Lib.hid (Blk.new w2 63 _)
 have HE3:=Lib.hid (HE2.out.kept (below_box w2 (stBox KD P (.slice iA il icap) (.slice eA el ecap) (.slice xA xl xcap))))
 have HG3:=Lib.hid (gr_below HG2.out (below_box w2 (stBox KD P (.slice iA il icap) (.slice eA el ecap) (.slice xA xl xcap))))
 have HOBG:Hid (¬ w2.heap.size=w0.heap.size):=Lib.hid (by have:=HE2.out.lt; omega)
 clear hKD hPP hIN hil HE1 HG1 HFZ HC3 HSD hfz hc3 HOR HTS HSTC HIS
 go_wp2_with fail
 refine (isHistS_any _ _).mono ?_
 rintro e w4 ⟨rfl,rfl⟩
 clear q0 q1 q2 q3 q4 p0 hzz hyy HE2 HG2
 generalize w2.heap.size=ob at *
 generalize w2.alloc (stBox KD P (.slice iA il icap) (.slice eA el ecap) (.slice xA xl xcap))=w3 at *
 obtain ⟨z0,z1,z2⟩:=(⟨HBOX.out.cell 0,HBOX.out.cell 1,HBOX.out.cell 2⟩:w3.cell? ⟨ob,0,none⟩=some (.int .i64 KD)∧w3.cell? ⟨ob,1,none⟩=some (.int .i64 P)∧w3.cell? ⟨ob,2,none⟩=some (.slice iA il icap))
 cases hh:histB KD with
 | true =>
  have hR:=HR.out
  rw [if_pos hh] at hR
  have HRR:=Lib.hid hR
  have HED:=Lib.hid HE3.out.drew
  have HGD:=Lib.hid (gr_drew HG3.out)
  have HOB:Hid (Blk w3.drew ob 63 #[.int .i64 KD,.int .i64 P,.slice iA il icap,.slice eA el ecap,.slice xA xl xcap]):=Lib.hid HBOX.out
  clear hR hh HR z0 z1 z2
  go_wp2_with fail
  refine anyD_start (fun W=>W.cell? ⟨w0.heap.size,0,none⟩=some (.slice (some ⟨b,o,none⟩) C.sts.length scap)∧W.cell? ⟨w0.heap.size,1,none⟩=some (.slice hA H.length hcap)∧W.cell? ⟨ob,1,none⟩=some (.int .i64 P)) (fun i=>[].contains i) (by kernel_rfl) ?_
  have HS4:=Lib.hid (show _∧_∧_ from ⟨HED.out.cells.1.1,HED.out.cells.1.2.1,HOB.out.cell 1⟩)
  refine anyD_t 0 (.pointer (some ⟨w0.heap.size,0,none⟩)) ?_
  try simp only [Act.put,sx]
  refine anyD_t 1 (.pointer (some ⟨w0.heap.size,0,none⟩)) ?_
  try simp only [Act.put,sx]
  refine anyD_t 2 (.pointer (some ⟨w0.heap.size,0,none⟩)) ?_
  try simp only [Act.put,sx]
  refine anyD_t 3 (.pointer (some ⟨w0.heap.size,0,none⟩)) ?_
  try simp only [Act.put,sx]
  refine anyD_l 4 (.agg #[.slice (some ⟨b,o,none⟩) C.sts.length scap,.slice hA H.length hcap]) (HS4.out) ?_
  try simp only [Act.put,sx]
  refine anyD_t 5 (.int .i64 (k:Int)) ?_
  try simp only [Act.put,sx]
  refine anyD_t 7 (.pointer (some ⟨ob,1,none⟩)) ?_
  try simp only [Act.put,sx]
  refine anyD_l 8 (.int .i64 P) (HS4.out) ?_
  try simp only [Act.put,sx]
  refine anyD_one (i:=6) rfl rfl (by kernel_rfl) (fun K HK=>?_)
  go_simp
  refine (sof_any _ _ C.sts H (k:Int) w0 _ HED.out.below HN.out.sts HN.out.hist (by have:=HN.out.len; omega) HN.out.hlen).mono ?_
  rintro e w7 ⟨hb7,v7,rfl,hl7⟩
  have HE7:=Lib.hid (HED.out.kept hb7)
  have HG7:=Lib.hid (gr_below HGD.out hb7)
  have HOB7:=Lib.hid (HOB.out.below hb7 HOB.out.lt)
  have HL7:Hid (LiAt (fun b=>b ≠ w0.heap.size) w7 v7 (ofS C.sts H (k:Int))):=Lib.hid (hl7.mono fun b _ hb=>by have:=HED.out.lt; omega)
  clear hb7 hl7
  go_simp
  refine HK.out _ _ (fun _ hS=>⟨HE7.out.cells.1.1,HE7.out.cells.1.2.1,HOB7.out.cell 1⟩) ?_
  clear HK K
  try simp only [Act.put,sx]
  refine anyD_one (i:=9) rfl rfl (by kernel_rfl) (fun K HK=>?_)
  go_simp
  refine (addAll_any HN.out HF.out v7 _ P _ _ HE7.out HC.out HL7.out (HN.out.ofl _)).mono ?_
  rintro e w8 ⟨rfl,hg8,he8⟩
  have HE8:=Lib.hid he8
  have HG8:=Lib.hid (HG7.out.trans hg8)
  have HOB8:Hid (Blk w8 ob 63 #[.int .i64 KD,.int .i64 P,.slice iA il icap,.slice eA el ecap,.slice xA xl xcap]):=Lib.hid ((hg8.block ob HOB7.out.lt (fun h=>by injection h with h; exact HOBG.out h)).trans HOB7.out)
  clear hg8 he8
  go_simp
  refine HK.out _ _ (fun _ hS=>⟨HE8.out.cells.1.1,HE8.out.cells.1.2.1,HOB8.out.cell 1⟩) ?_
  clear HK K
  try simp only [Act.put,sx]
  refine anyD_done (by kernel_rfl) ?_
  go_wp2_with fail
  go_end0
  exact ⟨rfl,HG8.out,by rw [HRR.out]; exact HE8.out⟩
 | false =>
  have hR:=HR.out
  rw [if_neg (by rw [hh]; simp)] at hR
  have HOR:=Lib.hid (or_add st.a C.sts.length k (by omega) hk)
  have HFZ:Hid (w3.frozen? ⟨w0.heap.size,3,none⟩=false):=Lib.hid (HE3.out.blk.frozen 3)
  have HC3:Hid (w3.cell? ⟨w0.heap.size,3,none⟩=some (.int .u32 ((bset st.a C.sts.length:Nat):Int))):=Lib.hid HE3.out.cells.2.1
  have HSD:Hid (w3.drew.cell? ⟨w0.heap.size,3,none⟩=some (.int .u32 ((bset st.a C.sts.length:Nat):Int))):=Lib.hid HE3.out.cells.2.1
  have HRR:=Lib.hid hR
  clear hR hh HR z0 z1 z2
  go_wp2_with fail
  have hfz:=HFZ.out
  have hc3:=HC3.out
  refine anyD_start (fun W=>W.cell? ⟨w0.heap.size,3,none⟩=some (.int .u32 ((bset st.a C.sts.length:Nat):Int))) (fun i=>[9].contains i) (by kernel_rfl) ?_
  refine anyD_t 0 (.pointer (some ⟨w0.heap.size,0,none⟩)) ?_
  try simp only [Act.put,sx]
  refine anyD_t 1 (.pointer (some ⟨w0.heap.size,0,none⟩)) ?_
  try simp only [Act.put,sx]
  refine anyD_t 2 (.pointer (some ⟨w0.heap.size,3,none⟩)) ?_
  try simp only [Act.put,sx]
  refine anyD_load (i:=3) (v:=.int .u32 ((bset st.a C.sts.length:Nat):Int)) rfl (by kernel_rfl) (by kernel_rfl) (by kernel_rfl) (by kernel_rfl) (fun _ _ _ h=>h) (Or.inl ⟨by kernel_rfl,fun w hS=>by have c0:=hS; go_simp⟩) (HSD.out) ?_
  try simp only [Act.put,sx]
  refine anyD_t 4 (.int .i64 (k:Int)) ?_
  try simp only [Act.put,sx]
  refine anyD_one (i:=5) rfl rfl (by kernel_rfl) (fun K HK=>?_)
  go_simp
  refine (bitS_any k (by have:=HN.out.len; omega) _).mono ?_
  rintro e w5 ⟨rfl,rfl⟩
  skip
  go_simp
  refine HK.out _ _ (fun _ hS=>hS) ?_
  clear HK K
  try simp only [Act.put,sx]
  refine anyD_take (i:=6) (v:=.int .u32 ((bset (addS st.a (k:Int)) C.sts.length:Nat):Int)) rfl (by kernel_rfl) (by kernel_rfl) (by kernel_rfl) (fun _ _ _ h=>h) (Or.inl ⟨by kernel_rfl,fun w=>by go_simp; exact HOR.out⟩) ?_
  try simp only [Act.put,sx]
  refine anyD_t 7 (.pointer (some ⟨w0.heap.size,0,none⟩)) ?_
  try simp only [Act.put,sx]
  refine anyD_t 8 (.pointer (some ⟨w0.heap.size,3,none⟩)) ?_
  try simp only [Act.put,sx]
  refine anyD_one (i:=9) rfl rfl (by kernel_rfl) (fun K HK=>?_)
  go_simp
  refine HK.out _ _ (fun h=>absurd h (by decide)) ?_
  clear HK K
  try simp only [Act.put,sx]
  refine anyD_done (by kernel_rfl) ?_
  have HE5:Hid (EAt w0 t (.slice (some ⟨b,o,none⟩) C.sts.length scap) (.slice hA H.length hcap) C.sts.length ⟨addS st.a (k:Int),addS st.b (k:Int)⟩ (w3.setCell ⟨w0.heap.size,3,none⟩ (.int .u32 ((bset (addS st.a (k:Int)) C.sts.length:Nat):Int))).drew):=Lib.hid (HE3.out.put (k:Int)).drew
  have HG5:Hid (w.grownBy (w3.setCell ⟨w0.heap.size,3,none⟩ (.int .u32 ((bset (addS st.a (k:Int)) C.sts.length:Nat):Int))).drew (some w0.heap.size)):=Lib.hid (gr_drew (gr_set HG3.out 3 _))
  have HOB5:Hid (Blk (w3.setCell ⟨w0.heap.size,3,none⟩ (.int .u32 ((bset (addS st.a (k:Int)) C.sts.length:Nat):Int))).drew ob 63 #[.int .i64 KD,.int .i64 P,.slice iA il icap,.slice eA el ecap,.slice xA xl xcap]):=Lib.hid (HBOX.out.set_ne HOBG.out 3 _)
  generalize (w3.setCell ⟨w0.heap.size,3,none⟩ (.int .u32 ((bset (addS st.a (k:Int)) C.sts.length:Nat):Int))).drew=w5 at *
  obtain ⟨z0,z2⟩:=(⟨HOB5.out.cell 0,HOB5.out.cell 2⟩:w5.cell? ⟨ob,0,none⟩=some (.int .i64 KD)∧w5.cell? ⟨ob,2,none⟩=some (.slice iA il icap))
  clear hfz hc3 HFZ HC3 HSD HOR HE3 HG3 HBOX
  by_cases h2:KD=2
  · have hR:=HRR.out
    rw [if_pos h2] at hR
    have HR2:=Lib.hid hR
    have h22:(KD == 2)=true:=by simpa using h2
    have HL5:Hid (LiAt (fun b=>b ≠ w0.heap.size) w5 (.slice iA il icap) IN):=Lib.hid (by rw [HILE.out]; exact list_in HINI.out HE5.out.below)
    clear hR h2 HRR
    go_wp2_with fail
    refine (addAll_any HN.out HF.out _ _ _ _ _ HE5.out HC.out HL5.out HIL.out).mono ?_
    rintro e w8 ⟨rfl,hg8,he8⟩
    have HE8:=Lib.hid he8
    have HG8:=Lib.hid (HG5.out.trans hg8)
    clear hg8 he8
    go_wp2_with fail
    go_end0
    exact ⟨rfl,HG8.out,by rw [HR2.out]; exact HE8.out⟩
  · have hR:=HRR.out
    rw [if_neg h2] at hR
    have h22:(KD == 2)=false:=by simpa using h2
    by_cases h3:KD=3
    · rw [if_pos h3] at hR
      have HR2:=Lib.hid hR
      have h33:(KD == 3)=true:=by simpa using h3
      clear hR h2 h3 HRR
      go_wp2_with fail
      refine (addKids_any HN.out HF.out _ _ _ (isSt_of hk) HE5.out HC.out).mono ?_
      rintro e w8 ⟨rfl,hg8,he8⟩
      have HE8:=Lib.hid he8
      have HG8:=Lib.hid (HG5.out.trans hg8)
      clear hg8 he8
      go_wp2_with fail
      go_end0
      exact ⟨rfl,HG8.out,by rw [HR2.out]; exact HE8.out⟩
    · rw [if_neg h3] at hR
      have HR2:=Lib.hid hR
      have h33:(KD == 3)=false:=by simpa using h3
      clear hR h2 h3 HRR
      go_wp2_with fail
      go_end0
      exact ⟨rfl,HG5.out,by rw [HR2.out]; exact HE5.out⟩
theorem below_ok {w0:World} {t:Nat} {vs vh:Value} {C:Ch} {H:List Nat} (hN:Ent w0 t vs vh C H):∀ f,BelowOK w0 t vs vh C H f
 | 0=>fun s st w hE hc=>by
  rw [pB]
  refine addBelow_skip hN s st w hE ?_
  cases his:isSt C.sts s with
  | false=>exact .inl rfl
  | true =>
   obtain ⟨k,rfl,hk⟩:=isSt_nat his
   cases hm:st.b k with
   | true=>exact .inr hm
   | false=>have:=cntU_lt C.sts.length hk hm; omega
 | f+1=>fun s st w hE hc=>by
  by_cases h:isSt C.sts s=false ∨ st.b s.toNat=true
  · rw [pB,if_pos h]
    exact addBelow_skip hN s st w hE h
  · have h1:isSt C.sts s=true:=by cases hi:isSt C.sts s with | true=>rfl | false=>exact absurd (.inl hi) h
    have h2:st.b s.toNat=false:=by cases hi:st.b s.toNat with | false=>rfl | true=>exact absurd (.inr hi) h
    exact addBelow_go hN (below_ok hN f) s st w hE h1 h2 hc
end Go.Proofs.YtmhkpjcdkjnlnaaGreatDoor
