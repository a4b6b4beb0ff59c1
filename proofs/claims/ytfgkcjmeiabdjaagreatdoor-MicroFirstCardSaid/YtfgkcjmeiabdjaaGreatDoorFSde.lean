/- The contracts of the document's Adder, given that of Down: regions, Above. -/
import Derived.Test.YtfgkcjmeiabdjaaGreatDoorFSx
import Derived.Test.YtfgkcjmeiabdjaaGreatDoorFSrr
import Derived.Test.YtfgkcjmeiabdjaaGreatDoorFSbl
import Derived.Test.YtfgkcjmeiabdjaaGreatDoorFIfp
namespace Go.Proofs.YtfgkcjmeiabdjaaGreatDoor
open Go.ChangeShapes Go.WideShapes Go.ChangeAt Go.RowKit
set_option linter.unusedVariables false

structure DEnt (w0:World) (vr:Int) (vs vt vh:Value) (C:Ch) (H:List Nat):Prop where
  has:ChHas w0 vs vt C
  hist:HistAt w0 vh H
  tame:Tame C.sts
  hlen:H.length≤1000
  good:GoodH C.sts H
  std:∀ s,isSt C.sts s=true→histB (stAt C.sts s).kind=true→stD C.sts H s=ofS C.sts H s
  ofl:∀ s,(ofS C.sts H s).length≤1000
structure DAt (w0:World) (vr:Int) (vs vt vh:Value) (n:Nat) (A:Nat→Bool) (w:World):Prop where
  below:Below w0.heap.size w0 w
  box:Blk w (w0.heap.size+1) 125 #[.int .i64 vr,vs,vt,vh,.slice (some ⟨w0.heap.size,0,none⟩) n n]
  row:∃ cur,Blk w w0.heap.size 4 cur∧cur.size=n∧∀ i,i < n→cur[i]?=some (.bool (A i))
def DPost (w0:World) (vr:Int) (vs vt vh:Value) (n:Nat) (A:Nat→Bool) (w:World) (e:Ending) (w':World):Prop :=
  e=.returned (.tuple #[])∧w.grownBy w' (some w0.heap.size)∧DAt w0 vr vs vt vh n A w'
section
variable {w0:World} {vr:Int} {vs vt vh:Value} {n:Nat} {A:Nat→Bool} {w:World}
theorem DAt.lt (h:DAt w0 vr vs vt vh n A w):w0.heap.size < w.heap.size:=by obtain ⟨cur,h1,_⟩:=h.row; exact h1.lt
theorem DAt.kept {w':World} (h:DAt w0 vr vs vt vh n A w) (hb:Below w.heap.size w w'):DAt w0 vr vs vt vh n A w':=by
  obtain ⟨cur,h1,h2⟩:=h.row
  exact ⟨h.below.trans (hb.mono h.below.size),h.box.below hb h.box.lt,cur,h1.below hb h1.lt,h2⟩
theorem DAt.drew (h:DAt w0 vr vs vt vh n A w):DAt w0 vr vs vt vh n A w.drew:=⟨h.below.drew,h.box,h.row⟩
theorem DAt.put (h:DAt w0 vr vs vt vh n A w) (k:Nat) (hk:k < n):DAt w0 vr vs vt vh n (addS A (k:Int)) (w.setCell ⟨w0.heap.size,k,none⟩ (.bool true)):=by
  obtain ⟨cur,h1,h2,h3⟩:=h.row
  refine ⟨h.below.setCell (Nat.le_refl _) _,h.box.set_ne (by omega) _ _,_,h1.set_ k _,by simpa using h2,fun i hi=>?_⟩
  by_cases hik:k=i
  · subst hik
    rw [Array.getElem?_setIfInBounds_self_of_lt (by omega)]
    simp [addS]
  · rw [Array.getElem?_setIfInBounds_ne hik,h3 i hi]
    have:¬ ((i:Int)=(k:Int)):=by omega
    simp [addS,this]
theorem DAt.cells (h:DAt w0 vr vs vt vh n A w):w.cell? ⟨w0.heap.size+1,0,none⟩=some (.int .i64 vr)∧w.cell? ⟨w0.heap.size+1,1,none⟩=some vs∧w.cell? ⟨w0.heap.size+1,2,none⟩=some vt∧w.cell? ⟨w0.heap.size+1,3,none⟩=some vh∧w.cell? ⟨w0.heap.size+1,4,none⟩=some (.slice (some ⟨w0.heap.size,0,none⟩) n n):=⟨h.box.cell 0,h.box.cell 1,h.box.cell 2,h.box.cell 3,h.box.cell 4⟩
theorem DAt.bit (h:DAt w0 vr vs vt vh n A w) (k:Nat) (hk:k < n):w.cell? ⟨w0.heap.size,k,none⟩=some (.bool (A k))∧w.frozen? ⟨w0.heap.size,k,none⟩=false:=by
  obtain ⟨cur,h1,h2,h3⟩:=h.row
  exact ⟨(h1.cell k).trans (h3 k hk),h1.frozen k⟩
end
def DownOK (w0:World) (vr:Int) (vs vt vh:Value) (C:Ch) (H:List Nat) (f:Nat):Prop :=
  ∀ (s:Int) (A:Nat→Bool) (w:World),isSt C.sts s=true→rk C.sts s < f→DAt w0 vr vs vt vh C.sts.length A w→Calls Tryz.prog 71 #[.pointer (some ⟨w0.heap.size+1,0,none⟩),.int .i64 s] w (DPost w0 vr vs vt vh C.sts.length (dB C.sts H f A s) w)
def someU (S:List St) (A:Nat→Bool) (k:Int) (m:Nat):Bool:=(List.range m).any fun x=>A x && cIn S (x:Int) k
theorem someU_succ (S:List St) (A:Nat→Bool) (k:Int) (m:Nat):someU S A k (m+1)=(someU S A k m || (A m && cIn S (m:Int) k)):=by
  unfold someU
  rw [List.range_succ,List.any_append]
  simp
set_option maxHeartbeats 8000000 in
set_option maxRecDepth 100000 in
theorem regions_any {w0:World} {vr:Int} {vs vt vh:Value} {C:Ch} {H:List Nat} {f:Nat} (hN:DEnt w0 vr vs vt vh C H) (hF:DownOK w0 vr vs vt vh C H f) (p:Int) (A:Nat→Bool) (w:World) (hE:DAt w0 vr vs vt vh C.sts.length A w) (hp:∀ k ∈ kids C.sts p,isSt C.sts k=true∧rk C.sts k < f) :
    Calls Tryz.prog 112 #[.pointer (some ⟨w0.heap.size+1,0,none⟩),.int .i64 p] w (DPost w0 vr vs vt vh C.sts.length (kidsW C.sts (someD C.sts) (dB C.sts H f) p A) w):=by
  have HN:=Lib.hid hN
  have HF:=Lib.hid hF
  have HP:=Lib.hid hp
  have HE:=Lib.hid hE
  have HR:Hid (kidsW C.sts (someD C.sts) (dB C.sts H f) p A=(kids C.sts p).foldl (kidStep (someD C.sts) (dB C.sts H f)) A):=Lib.hid rfl
  have HKD:=Lib.hid (rkids_any vr p vs vt C w (hN.has.below hE.below) (by have:=hN.tame.len; omega))
  have hkl:(kids C.sts p).length≤24:=by have:=kids_len C.sts p; have:=hN.tame.len; omega
  have hlen:=hN.tame.len
  generalize kidsW C.sts (someD C.sts) (dB C.sts H f) p A=R at *
  generalize kids C.sts p=L at *
  obtain ⟨sA,scap,rfl,hscap⟩:=RowsAt.slice hN.has.1
  obtain ⟨c0,c1,c2,c3,c4⟩:=hE.cells
  clear hN hF hE hp
  go_enter Tryz.func112,Tryz.ntmps112
  go_wp2_with fail
  refine HKD.out.mono ?_
  rintro e w1 ⟨hb1,v1,rfl,ho1⟩
  have HE1:=Lib.hid (HE.out.kept hb1)
  have HG1:Hid (w.grownBy w1 (some w0.heap.size)):=Lib.hid (only_of_below hb1 _)
  have HL1:Hid (LiAt (fun b=>b ≠ w0.heap.size) w1 v1 L):=Lib.hid (LiAt.of_own ho1 fun b hb=>by have:=HE.out.lt; omega)
  obtain ⟨mA,mcap,rfl,hmc⟩:=RowsAt.slice HL1.out
  clear hb1 ho1 c0 c1 c2 c3 c4 HKD
  go_wp2_with fail
  go_loopw [5] (fun i wr=>∃ (k:Nat) (A2:Nat→Bool),k≤L.length∧i=.int .i64 (k:Int)∧Hid (DAt w0 vr (.slice sA C.sts.length scap) vt vh C.sts.length A2 wr)∧Hid (w.grownBy wr (some w0.heap.size))∧Hid (LiAt (fun b=>b ≠ w0.heap.size) wr (.slice mA L.length mcap) L)∧Hid (R=(L.drop k).foldl (kidStep (someD C.sts) (dB C.sts H f)) A2)) (fun i _=>L.length - (intOf i).toNat)
  case atStart=>exact ⟨0,A,Nat.zero_le _,rfl,HE1,HG1,HL1,HR⟩
  case round =>
    clear HE1 HG1 HL1 HR HE
    obtain ⟨k,A2,hk,rfl,HE,HG,HL,HR⟩:=hrel
    obtain ⟨wo,rfl⟩:∃ wo:World,wo=wr:=⟨_,rfl⟩
    by_cases hlt:k < L.length
    · obtain ⟨mb,mo,hmA,hmbl,hmc0,hmne⟩:=(let ⟨_,_,h1,_,h3⟩:=HL.out; by injection h1 with e1 e2 e3; subst e1; exact h3 k _ (List.getElem?_eq_getElem hlt):∃ b o,mA=some ⟨b,o,none⟩∧b < wo.heap.size∧(IntAt wo b (o+k * 1) L[k])∧_)
      subst hmA
      have hRK:=HR.out.trans (drop_fold _ L k hlt A2)
      have HRK:=Lib.hid hRK
      have HPK:=Lib.hid (HP.out L[k] (List.getElem_mem hlt))
      have HAT:Hid (L[k]?=some L[k]):=Lib.hid (List.getElem?_eq_getElem hlt)
      generalize L[k]=x at *
      have HSO:Hid (someD C.sts A2 x=someU C.sts A2 x C.sts.length):=Lib.hid rfl
      have HCX:Hid (∀ W,LiAt (fun b=>b ≠ w0.heap.size) W (.slice (some ⟨mb,mo,none⟩) L.length mcap) L→W.cell? ⟨mb,mo+k,none⟩=some (.int .i64 x)∧mb < W.heap.size):=Lib.hid (fun W h=>by
        obtain ⟨_,_,h1,_,h3⟩:=h
        injection h1 with e1 e2 e3
        subst e1
        obtain ⟨b,o,hb,hlt,hi,_⟩:=h3 k x HAT.out
        injection hb with hb
        injection hb with e4 e5
        subst e4; subst e5
        unfold IntAt at hi
        rw [Nat.mul_one] at hi
        exact ⟨hi,hlt⟩)
      obtain ⟨c0,c1,c2,c3,c4⟩:=HE.out.cells
      clear hmc0 hmne hRK HR
      go_wp2_with fail
      go_loopw [6,7,8] (fun sv i iv wr=>∃ (m:Nat),m≤C.sts.length∧i=.int .i64 (m:Int)∧sv=.bool (someU C.sts A2 x m)∧Hid (DAt w0 vr (.slice sA C.sts.length scap) vt vh C.sts.length A2 wr)∧Hid (w.grownBy wr (some w0.heap.size))∧Hid (LiAt (fun b=>b ≠ w0.heap.size) wr (.slice (some ⟨mb,mo,none⟩) L.length mcap) L)) (fun _ i _ _=>C.sts.length - (intOf i).toNat)
      case atStart=>exact ⟨0,Nat.zero_le _,rfl,rfl,HE,HG,HL⟩
      case round =>
        clear HE HG HL c0 c1 c2 c3 c4
        obtain ⟨m,hm,rfl,rfl,HE,HG,HL⟩:=hrel
        obtain ⟨wp,rfl⟩:∃ wp:World,wp=wr:=⟨_,rfl⟩
        obtain ⟨c0,c1,c2,c3,c4⟩:=HE.out.cells
        by_cases hlt2:m < C.sts.length
        · have HE2:=Lib.hid HE.out.drew
          have HED:=Lib.hid HE.out.drew
          have HGD:=Lib.hid (gr_drew HG.out)
          have HLD:=Lib.hid (HL.out.below (Below.refl _ wp).drew)
          have HXC:=Lib.hid (HCX.out _ HLD.out).1
          have HMB:=Lib.hid (HCX.out _ HLD.out).2
          have HSU:=Lib.hid (someU_succ C.sts A2 x m)
          clear HE HG HL
          go_wp2_with fail
          clear c0 c1 c2 c3 c4
          refine anyD_start (fun W=>(W.cell? ⟨w0.heap.size+1,0,none⟩=some (.int .i64 vr)∧W.cell? ⟨w0.heap.size+1,1,none⟩=some (.slice sA C.sts.length scap)∧W.cell? ⟨w0.heap.size+1,2,none⟩=some vt)∧W.cell? ⟨mb,mo+k,none⟩=some (.int .i64 x)) (fun i=>[].contains i) (by kernel_rfl) ?_
          have HSD:Hid ((wp.drew.cell? ⟨w0.heap.size+1,0,none⟩=some (.int .i64 vr)∧wp.drew.cell? ⟨w0.heap.size+1,1,none⟩=some (.slice sA C.sts.length scap)∧wp.drew.cell? ⟨w0.heap.size+1,2,none⟩=some vt)∧wp.drew.cell? ⟨mb,mo+k,none⟩=some (.int .i64 x)):=Lib.hid ⟨⟨HE2.out.cells.1,HE2.out.cells.2.1,HE2.out.cells.2.2.1⟩,HXC.out⟩
          refine anyD_t 0 (.pointer (some ⟨w0.heap.size+1,0,none⟩)) ?_
          try simp only [Act.put,sx]
          refine anyD_t 1 (.pointer (some ⟨w0.heap.size+1,0,none⟩)) ?_
          try simp only [Act.put,sx]
          refine anyD_t 2 (.pointer (some ⟨w0.heap.size+1,0,none⟩)) ?_
          try simp only [Act.put,sx]
          refine anyD_l 3 (.agg #[.int .i64 vr,.slice sA C.sts.length scap,vt]) (HSD.out) ?_
          try simp only [Act.put,sx]
          refine anyD_t 4 (.int .i64 (m:Int)) ?_
          try simp only [Act.put,sx]
          refine anyD_t 5 (.slice (some ⟨mb,mo,none⟩) L.length mcap) ?_
          try simp only [Act.put,sx]
          refine anyD_t 6 (.int .i64 (k:Int)) ?_
          try simp only [Act.put,sx]
          refine anyD_t 7 (.pointer (some ⟨mb,mo+k,none⟩)) ?_
          try simp only [Act.put,sx]
          refine anyD_l 8 (.int .i64 x) (HSD.out) ?_
          try simp only [Act.put,sx]
          refine anyD_one (i:=9) rfl rfl (by kernel_rfl) (fun K HK=>?_)
          go_simp
          refine (rIn_any vr x _ vt C (by have:=HN.out.tame.len; unfold Short; omega) _ (m:Int) _ (Nat.le_refl _) (HN.out.has.below HED.out.below)).mono ?_
          rintro e w3 ⟨rfl,hb3⟩
          have HE3:=Lib.hid (HED.out.kept hb3)
          have HG3:=Lib.hid (gr_below HGD.out hb3)
          have HL3:=Lib.hid (HLD.out.below hb3)
          have HX3:=Lib.hid ((hb3.cell (p:=⟨mb,mo+k,none⟩) HMB.out).trans HXC.out)
          clear hb3
          go_simp
          refine HK.out _ _ (fun _ hS=>⟨⟨HE3.out.cells.1,HE3.out.cells.2.1,HE3.out.cells.2.2.1⟩,HX3.out⟩) ?_
          clear HK K
          try simp only [Act.put,sx]
          refine anyD_t 10 (.bool (cIn C.sts (m:Int) x)) ?_
          try simp only [Act.put,sx]
          refine anyD_done (by kernel_rfl) ?_
          obtain ⟨c0,c1,c2,c3,c4⟩:=HE3.out.cells
          have hbm:=(HE3.out.bit m hlt2).1
          clear HSD HE2 HED HGD HLD HXC HMB HX3
          generalize cIn C.sts (m:Int) x=ci at *
          generalize A2 m=am at *
          cases hsu:someU C.sts A2 x m with
          | true =>
            have HNX:Hid (someU C.sts A2 x (m+1)=true):=Lib.hid (by rw [HSU.out,hsu]; rfl)
            clear hsu
            go_wp2_with fail
            go_roundw
            case rel=>exact ⟨m+1,by omega,by go_num,by rw [HNX.out],HE3,HG3,HL3⟩
            case measure=>simp [intOf]; omega
          | false =>
            cases am with
            | true =>
              have HNX:Hid (someU C.sts A2 x (m+1)=ci):=Lib.hid (by rw [HSU.out,hsu]; simp)
              clear hsu
              go_wp2_with fail
              go_roundw
              case rel=>exact ⟨m+1,by omega,by go_num,by rw [HNX.out],HE3,HG3,HL3⟩
              case measure=>simp [intOf]; omega
            | false =>
              have HNX:Hid (someU C.sts A2 x (m+1)=false):=Lib.hid (by rw [HSU.out,hsu]; simp)
              clear hsu
              go_wp2_with fail
              go_roundw
              case rel=>exact ⟨m+1,by omega,by go_num,by rw [HNX.out],HE3,HG3,HL3⟩
              case measure=>simp [intOf]; omega
        · obtain rfl:m=C.sts.length:=by omega
          have hd0:=(HCX.out _ HL.out).1
          cases hs:someD C.sts A2 x with
          | true =>
            have HS:Hid (kidStep (someD C.sts) (dB C.sts H f) A2 x=A2):=Lib.hid (by unfold kidStep; rw [if_pos hs])
            rw [HS.out] at HRK
            have hsu:someU C.sts A2 x C.sts.length=true:=by rw [← HSO.out]; exact hs
            rw [hsu]
            clear hs hsu
            go_wp2_with fail
            go_roundw
            case rel=>exact ⟨k+1,A2,by omega,by go_num,HE,HG,HL,HRK⟩
            case measure=>simp [intOf]; omega
          | false =>
            have HS:Hid (kidStep (someD C.sts) (dB C.sts H f) A2 x=dB C.sts H f A2 x):=Lib.hid (by unfold kidStep; rw [if_neg (by rw [hs]; simp)])
            rw [HS.out] at HRK
            have hsu:someU C.sts A2 x C.sts.length=false:=by rw [← HSO.out]; exact hs
            rw [hsu]
            clear hs hsu
            go_wp2_with fail
            refine (HF.out x A2 _ HPK.out.1 HPK.out.2 HE.out).mono ?_
            rintro e w4 ⟨rfl,hg4,he4⟩
            have HE4:=Lib.hid he4
            have HG4:=Lib.hid (HG.out.trans hg4)
            have HL4:=Lib.hid (HL.out.grown hg4 fun b _ hb h=>hb (by injection h))
            clear hg4 he4
            go_wp2
            go_roundw
            case rel=>exact ⟨k+1,dB C.sts H f A2 x,by omega,by go_num,HE4,HG4,HL4,HRK⟩
            case measure=>simp [intOf]; omega
    · obtain rfl:k=L.length:=by omega
      have hR:=HR.out
      rw [List.drop_length] at hR
      have HRR:=Lib.hid hR
      clear hR
      go_wp2_with fail
      go_end0
      exact ⟨rfl,HG.out,by rw [HRR.out]; exact HE.out⟩
end Go.Proofs.YtfgkcjmeiabdjaaGreatDoor
/- The contract of the document's Above. -/
namespace Go.Proofs.YtfgkcjmeiabdjaaGreatDoor
open Go.ChangeShapes Go.WideShapes Go.ChangeAt Go.RowKit
set_option linter.unusedVariables false

set_option maxHeartbeats 8000000 in
set_option maxRecDepth 100000 in
theorem above_any' {w0:World} {vr:Int} {vs vt vh:Value} {C:Ch} {H:List Nat} {f:Nat} (hN:DEnt w0 vr vs vt vh C H) (hF:DownOK w0 vr vs vt vh C H f) (s top:Int) (A:Nat→Bool) (w:World) (hs:isSt C.sts s=true) (hE:DAt w0 vr vs vt vh C.sts.length A w) (hp:UpOk C.sts f top s) :
    Calls Tryz.prog 73 #[.pointer (some ⟨w0.heap.size+1,0,none⟩),.int .i64 s,.int .i64 top] w (DPost w0 vr vs vt vh C.sts.length (aboveW C.sts (someD C.sts) addS (dB C.sts H f) top A s) w):=by
  obtain ⟨sk,rfl,hsk⟩:=isSt_nat hs
  have HN:=Lib.hid hN
  have HK:=Lib.hid (fun p A w=>regions_any hN hF p A w)
  have HE:=Lib.hid hE
  have HU:=Lib.hid (rups_any vr vs vt C sk w (hN.has.below hE.below) (by have:=hN.tame.len; omega) hsk)
  have HR:Hid (aboveW C.sts (someD C.sts) addS (dB C.sts H f) top A (sk:Int)=upW C.sts (someD C.sts) addS (dB C.sts H f) top (ups C.sts (sk:Int)) A):=Lib.hid rfl
  have hUL:=ups_short C.sts (sk:Int)
  have hlen:=hN.tame.len
  have HP:Hid (∀ p ∈ (ups C.sts (sk:Int)).takeWhile (fun y=>decide (y ≠ top)),isSt C.sts p=true∧histB (stAt C.sts p).kind=false∧∀ k ∈ kids C.sts p,isSt C.sts k=true∧rk C.sts k < f):=Lib.hid hp
  have HISL:Hid (∀ q ∈ ups C.sts (sk:Int),isSt C.sts q=true):=Lib.hid (fun q hq=>ups_isSt hq)
  generalize aboveW C.sts (someD C.sts) addS (dB C.sts H f) top A (sk:Int)=R at *
  generalize ups C.sts (sk:Int)=L at *
  obtain ⟨sA,scap,rfl,hscap⟩:=RowsAt.slice hN.has.1
  obtain ⟨c0,c1,c2,c3,c4⟩:=hE.cells
  clear hN hF hE hp hs
  go_enter Tryz.func73,Tryz.ntmps73
  go_wp2_with fail
  refine HU.out.mono ?_
  rintro e w1 ⟨hb1,v1,rfl,ho1⟩
  have HE1:=Lib.hid (HE.out.kept hb1)
  have HG1:Hid (w.grownBy w1 (some w0.heap.size)):=Lib.hid (only_of_below hb1 _)
  have HL1:Hid (LiAt (fun b=>b ≠ w0.heap.size) w1 v1 L):=Lib.hid (LiAt.of_own ho1 fun b hb=>by have:=HE.out.lt; omega)
  obtain ⟨mA,mcap,rfl,hmc⟩:=RowsAt.slice HL1.out
  clear hb1 ho1 c0 c1 c2 c3 c4 HU
  go_wp2_with fail
  go_loopw [7] (fun i wr=>∃ (k:Nat) (A2:Nat→Bool),k≤L.length∧i=.int .i64 (k:Int)∧Hid (DAt w0 vr (.slice sA C.sts.length scap) vt vh C.sts.length A2 wr)∧Hid (w.grownBy wr (some w0.heap.size))∧Hid (LiAt (fun b=>b ≠ w0.heap.size) wr (.slice mA L.length mcap) L)∧Hid (∀ p ∈ (L.drop k).takeWhile (fun y=>decide (y ≠ top)),isSt C.sts p=true∧histB (stAt C.sts p).kind=false∧∀ k ∈ kids C.sts p,isSt C.sts k=true∧rk C.sts k < f)∧Hid (R=upW C.sts (someD C.sts) addS (dB C.sts H f) top (L.drop k) A2)) (fun i _=>L.length - (intOf i).toNat)
  case atStart=>exact ⟨0,A,Nat.zero_le _,rfl,HE1,HG1,HL1,HP,HR⟩
  case round =>
    clear HE1 HG1 HL1 HR HE HP
    obtain ⟨k,A2,hk,rfl,HE,HG,HL,HP,HR⟩:=hrel
    obtain ⟨wo,rfl⟩:∃ wo:World,wo=wr:=⟨_,rfl⟩
    by_cases hlt:k < L.length
    · obtain ⟨mb,mo,hmA,hmbl,hmc0,hmne⟩:=(let ⟨_,_,h1,_,h3⟩:=HL.out; by injection h1 with e1 e2 e3; subst e1; exact h3 k _ (List.getElem?_eq_getElem hlt):∃ b o,mA=some ⟨b,o,none⟩∧b < wo.heap.size∧(IntAt wo b (o+k * 1) L[k])∧_)
      subst hmA
      have d0:wo.cell? ⟨mb,mo+k,none⟩=some (.int .i64 L[k]):=by have:=hmc0; unfold IntAt at this; rwa [Nat.mul_one] at this
      have hRK:=HR.out
      rw [List.drop_eq_getElem_cons hlt,upW] at hRK
      have hPK:=HP.out
      rw [List.drop_eq_getElem_cons hlt,List.takeWhile_cons] at hPK
      obtain ⟨j,hj,hjl⟩:=isSt_nat (HISL.out L[k] (List.getElem_mem hlt))
      have HAT:Hid (L[k]?=some (j:Int)):=Lib.hid (by rw [List.getElem?_eq_getElem hlt,hj])
      rw [hj] at d0 hRK hPK
      clear hmc0 hj HR HP
      by_cases htop:(j:Int)=top
      · rw [if_pos htop] at hRK
        have HRR:=Lib.hid hRK
        have ht2:((j:Int) != top)=false:=by simpa using htop
        clear hRK htop hPK hmne
        go_wp2_with fail
        go_end0
        exact ⟨rfl,HG.out,by rw [HRR.out]; exact HE.out⟩
      · rw [if_neg htop] at hRK
        rw [if_pos (by simpa using htop)] at hPK
        have ht2:((j:Int) != top)=true:=by simpa using htop
        have HRK:=Lib.hid hRK
        have HPJ:=Lib.hid (hPK (j:Int) (List.mem_cons_self ..))
        have HPK:Hid (∀ p ∈ (L.drop (k+1)).takeWhile (fun y=>decide (y ≠ top)),isSt C.sts p=true∧histB (stAt C.sts p).kind=false∧∀ k ∈ kids C.sts p,isSt C.sts k=true∧rk C.sts k < f):=Lib.hid (fun p hp=>hPK p (List.mem_cons_of_mem _ hp))
        have HXC:Hid (wo.cell? ⟨mb,mo+k,none⟩=some (.int .i64 (j:Int))):=Lib.hid d0
        have HBC:Hid (wo.cell? ⟨w0.heap.size,j,none⟩=some (.bool (A2 j))∧wo.frozen? ⟨w0.heap.size,j,none⟩=false):=Lib.hid (HE.out.bit j hjl)
        have HMNE:Hid (mb ≠ w0.heap.size):=Lib.hid hmne
        clear htop hRK hPK hmne
        go_wp2_with fail
        clear d0
        obtain ⟨hbc,hfz⟩:=HBC.out
        refine anyD_start (fun W=>W.cell? ⟨w0.heap.size+1,4,none⟩=some (.slice (some ⟨w0.heap.size,0,none⟩) C.sts.length C.sts.length)∧W.cell? ⟨mb,mo+k,none⟩=some (.int .i64 (j:Int))) (fun i=>[9].contains i) (by kernel_rfl) ?_
        have HSD:Hid (wo.drew.cell? ⟨w0.heap.size+1,4,none⟩=some (.slice (some ⟨w0.heap.size,0,none⟩) C.sts.length C.sts.length)∧wo.drew.cell? ⟨mb,mo+k,none⟩=some (.int .i64 (j:Int))):=Lib.hid ⟨HE.out.cells.2.2.2.2,HXC.out⟩
        refine anyD_t 0 (.pointer (some ⟨w0.heap.size+1,0,none⟩)) ?_
        try simp only [Act.put,sx]
        refine anyD_t 1 (.pointer (some ⟨w0.heap.size+1,0,none⟩)) ?_
        try simp only [Act.put,sx]
        refine anyD_t 2 (.pointer (some ⟨w0.heap.size+1,4,none⟩)) ?_
        try simp only [Act.put,sx]
        refine anyD_l 3 (.slice (some ⟨w0.heap.size,0,none⟩) C.sts.length C.sts.length) (HSD.out) ?_
        try simp only [Act.put,sx]
        refine anyD_t 4 (.slice (some ⟨mb,mo,none⟩) L.length mcap) ?_
        try simp only [Act.put,sx]
        refine anyD_t 5 (.int .i64 (k:Int)) ?_
        try simp only [Act.put,sx]
        refine anyD_t 6 (.pointer (some ⟨mb,mo+k,none⟩)) ?_
        try simp only [Act.put,sx]
        refine anyD_l 7 (.int .i64 (j:Int)) (HSD.out) ?_
        try simp only [Act.put,sx]
        refine anyD_t 8 (.pointer (some ⟨w0.heap.size,j,none⟩)) ?_
        try simp only [Act.put,sx]
        refine anyD_one (i:=9) rfl rfl (by kernel_rfl) (fun K HK=>?_)
        go_simp
        refine HK.out _ _ (fun h=>absurd h (by decide)) ?_
        clear HK K
        try simp only [Act.put,sx]
        refine anyD_done (by kernel_rfl) ?_
        have HE5:Hid (DAt w0 vr (.slice sA C.sts.length scap) vt vh C.sts.length (addS A2 (j:Int)) (wo.setCell ⟨w0.heap.size,j,none⟩ (.bool true)).drew):=Lib.hid (HE.out.put j hjl).drew
        have HG5:Hid (w.grownBy (wo.setCell ⟨w0.heap.size,j,none⟩ (.bool true)).drew (some w0.heap.size)):=Lib.hid (gr_drew (gr_set HG.out j _))
        have HL5:Hid (LiAt (fun b=>b ≠ w0.heap.size) (wo.setCell ⟨w0.heap.size,j,none⟩ (.bool true)).drew (.slice (some ⟨mb,mo,none⟩) L.length mcap) L):=Lib.hid (HL.out.grown (gr_drew (gr_set gr_refl j _)) fun b _ hb h=>hb (by injection h))
        obtain ⟨b,o,cap,vi,ve,vx,hsl,hcc,hbl,hst,hhas⟩:=HN.out.has.st hjl
        injection hsl with e1 e2 e3
        subst e1; subst e3
        generalize (wo.setCell ⟨w0.heap.size,j,none⟩ (.bool true)).drew=w5 at *
        have hq:=(hst.below HE5.out.below hbl).1
        generalize hKD:(stAt C.sts (j:Int)).kind=KD at *
        have HS5:Hid (w5.drew.cell? ⟨w0.heap.size+1,1,none⟩=some (.slice (some ⟨b,o,none⟩) C.sts.length scap)∧w5.drew.cell? ⟨mb,mo+k,none⟩=some (.int .i64 (j:Int))∧w5.drew.cell? ⟨b,o+j * 5,none⟩=some (.int .i64 KD)):=Lib.hid ⟨HE5.out.cells.2.1,(by
          obtain ⟨_,_,h1,_,h3⟩:=HL5.out
          injection h1 with e1 e2 e3
          subst e1
          obtain ⟨b,o,hb,hlt,hi,_⟩:=h3 k _ HAT.out
          injection hb with hb
          injection hb with e4 e5
          subst e4; subst e5
          unfold IntAt at hi
          rw [Nat.mul_one] at hi
          exact hi),hq⟩
        have HE6:=Lib.hid HE5.out.drew
        have HG6:=Lib.hid (gr_drew HG5.out)
        have HL6:=Lib.hid (HL5.out.below (Below.refl _ w5).drew)
        have HX6:=Lib.hid HS5.out.2.1
        have HUS:Hid (upStep C.sts (someD C.sts) addS (dB C.sts H f) A2 (j:Int)=if KD=3 then kidsW C.sts (someD C.sts) (dB C.sts H f) (j:Int) (addS A2 (j:Int)) else addS A2 (j:Int)):=Lib.hid (by rw [← hKD]; rfl)
        generalize upStep C.sts (someD C.sts) addS (dB C.sts H f) A2 (j:Int)=U at *
        clear hst hhas hq hfz hbc HBC HSD HE HG HL hKD HE5 HG5 HL5
        go_wp2_with fail
        refine anyD_start (fun W=>W.cell? ⟨w0.heap.size+1,1,none⟩=some (.slice (some ⟨b,o,none⟩) C.sts.length scap)∧W.cell? ⟨mb,mo+k,none⟩=some (.int .i64 (j:Int))∧W.cell? ⟨b,o+j * 5,none⟩=some (.int .i64 KD)) (fun i=>[].contains i) (by kernel_rfl) ?_
        refine anyD_t 0 (.pointer (some ⟨w0.heap.size+1,0,none⟩)) ?_
        try simp only [Act.put,sx]
        refine anyD_t 1 (.pointer (some ⟨w0.heap.size+1,0,none⟩)) ?_
        try simp only [Act.put,sx]
        refine anyD_t 2 (.pointer (some ⟨w0.heap.size+1,0,none⟩)) ?_
        try simp only [Act.put,sx]
        refine anyD_t 3 (.pointer (some ⟨w0.heap.size+1,1,none⟩)) ?_
        try simp only [Act.put,sx]
        refine anyD_l 4 (.slice (some ⟨b,o,none⟩) C.sts.length scap) (HS5.out) ?_
        try simp only [Act.put,sx]
        refine anyD_t 5 (.slice (some ⟨mb,mo,none⟩) L.length mcap) ?_
        try simp only [Act.put,sx]
        refine anyD_t 6 (.int .i64 (k:Int)) ?_
        try simp only [Act.put,sx]
        refine anyD_t 7 (.pointer (some ⟨mb,mo+k,none⟩)) ?_
        try simp only [Act.put,sx]
        refine anyD_l 8 (.int .i64 (j:Int)) (HS5.out) ?_
        try simp only [Act.put,sx]
        refine anyD_t 9 (.pointer (some ⟨b,o+j * 5,none⟩)) ?_
        try simp only [Act.put,sx]
        refine anyD_t 10 (.pointer (some ⟨b,o+j * 5,none⟩)) ?_
        try simp only [Act.put,sx]
        refine anyD_l 11 (.int .i64 KD) (HS5.out) ?_
        try simp only [Act.put,sx]
        refine anyD_t 12 (.bool (KD == 3)) ?_
        try simp only [Act.put,sx]
        refine anyD_done (by kernel_rfl) ?_
        have hx6:=HX6.out
        by_cases hk3:KD=3
        · have hU:=HUS.out
          rw [if_pos hk3] at hU
          have HUU:=Lib.hid hU
          have hk2:(KD == 3)=true:=by simpa using hk3
          rw [hk2]
          clear hU hk3 HUS
          go_wp2_with fail
          refine (HK.out (j:Int) _ _ HE6.out HPJ.out.2.2).mono ?_
          rintro e w7 ⟨rfl,hg7,he7⟩
          rw [← HUU.out] at he7
          have HE7:=Lib.hid he7
          have HG7:=Lib.hid (HG6.out.trans hg7)
          have HL7:=Lib.hid (HL6.out.grown hg7 fun b _ hb h=>hb (by injection h))
          clear hg7 he7
          go_wp2
          go_roundw
          case rel=>exact ⟨k+1,U,by omega,by go_num,HE7,HG7,HL7,HPK,HRK⟩
          case measure=>simp [intOf]; omega
        · have hU:=HUS.out
          rw [if_neg hk3] at hU
          have HUU:=Lib.hid hU
          have hk2:(KD == 3)=false:=by simpa using hk3
          rw [hk2]
          clear hU hk3 HUS
          go_wp2_with fail
          go_roundw
          case rel=>exact ⟨k+1,U,by omega,by go_num,by rw [HUU.out]; exact HE6,HG6,HL6,HPK,HRK⟩
          case measure=>simp [intOf]; omega
    · obtain rfl:k=L.length:=by omega
      have hR:=HR.out
      rw [List.drop_length,upW] at hR
      have HRR:=Lib.hid hR
      clear hR
      go_wp2_with fail
      go_end0
      exact ⟨rfl,HG.out,by rw [HRR.out]; exact HE.out⟩
end Go.Proofs.YtfgkcjmeiabdjaaGreatDoor
/- The contract of the document's Down. -/
namespace Go.Proofs.YtfgkcjmeiabdjaaGreatDoor
open Go.ChangeShapes Go.WideShapes Go.ChangeAt Go.RowKit
set_option linter.unusedVariables false

theorem li_cell {K:Nat→Prop} {W:World} {mb mo n cap:Nat} {L:List Int} {k:Nat} {x:Int} (h:LiAt K W (.slice (some ⟨mb,mo,none⟩) n cap) L) (hx:L[k]?=some x):W.cell? ⟨mb,mo+k,none⟩=some (.int .i64 x):=by
  obtain ⟨_,_,h1,_,h3⟩:=h
  injection h1 with e1 e2 e3
  subst e1
  obtain ⟨b,o,hb,hlt,hi,_⟩:=h3 k x hx
  injection hb with hb
  injection hb with e4 e5
  subst e4; subst e5
  unfold IntAt at hi
  rwa [Nat.mul_one] at hi
set_option maxHeartbeats 8000000 in
set_option maxRecDepth 100000 in
theorem down_step {w0:World} {vr:Int} {vs vt vh:Value} {C:Ch} {H:List Nat} {f:Nat} (hN:DEnt w0 vr vs vt vh C H) (hF:DownOK w0 vr vs vt vh C H f):DownOK w0 vr vs vt vh C H (f+1):=by
  intro s A w hs hr hE
  have hta:=hN.tame
  obtain ⟨k,rfl,hk⟩:=isSt_nat hs
  obtain ⟨b,o,scap,vi,ve,vx,rfl,hcc,hbl,hst,hhas⟩:=hN.has.st hk
  have HST:=Lib.hid hst
  have HN:=Lib.hid hN
  have HF:=Lib.hid hF
  have HE:=Lib.hid hE
  have hlen:=hta.len
  have HPA:=Lib.hid (past_any vr _ vt C k w (hN.has.below hE.below) (by omega) hk)
  obtain ⟨c0,c1,c2,c3,c4⟩:=hE.cells
  have hR:dB C.sts H (f+1) A (k:Int)=dB C.sts H (f+1) A (k:Int):=rfl
  conv at hR=>rhs; rw [dB,if_neg (show ¬ isSt C.sts (k:Int)=false by rw [hs]; simp)]
  generalize dB C.sts H (f+1) A (k:Int)=RR at *
  cases hh:histB (stAt C.sts (k:Int)).kind with
  | true =>
    rw [hh] at HPA
    rw [if_pos hh] at hR
    have HSTD:=Lib.hid (hN.std _ hs hh)
    have hall:=rk_hist_all hta hN.good hs hh (stAt C.sts (k:Int)).par
    have HALL:Hid (∀ x ∈ ofS C.sts H (k:Int),isSt C.sts x=true∧rk C.sts x < f∧UpOk C.sts f (stAt C.sts (k:Int)).par x):=Lib.hid (fun x hx=>⟨(hall x hx).1,by have:=(hall x hx).2.1; omega,fun p hp=>⟨((hall x hx).2.2 p hp).1,((hall x hx).2.2 p hp).2.1,fun y hy=>⟨(((hall x hx).2.2 p hp).2.2 y hy).1,by have:=(((hall x hx).2.2 p hp).2.2 y hy).2; omega⟩⟩⟩)
    have HOL:=Lib.hid (hN.ofl (k:Int))
    have HRA:Hid (RR=(ofS C.sts H (k:Int)).foldl (aboveW C.sts (someD C.sts) addS (dB C.sts H f) (stAt C.sts (k:Int)).par) ((ofS C.sts H (k:Int)).foldl (dB C.sts H f) A)):=Lib.hid hR
    generalize ofS C.sts H (k:Int)=l at *
    generalize hP:(stAt C.sts (k:Int)).par=P at *
    have HST:Hid (StC w0 b (o+k * 5) (stAt C.sts (k:Int)) vi ve vx):=HST
    have HST:Hid (StC w0 b (o+k * 5) ⟨(stAt C.sts (k:Int)).kind,P,[],[],[]⟩ vi ve vx):=Lib.hid (by rw [← hP]; exact HST.out)
    clear hN hF hE hs hr hst hhas hR hh hall hP hta
    go_enter Tryz.func71,Tryz.ntmps71
    go_wp2_with fail
    refine HPA.out.mono ?_
    rintro e w1 ⟨rfl,hb1⟩
    have HE1:=Lib.hid (HE.out.kept hb1)
    have HG1:Hid (w.grownBy w1 (some w0.heap.size)):=Lib.hid (only_of_below hb1 _)
    have HED:=Lib.hid HE1.out.drew
    have HGD:=Lib.hid (gr_drew HG1.out)
    have HSD:Hid ((w1.drew.cell? ⟨w0.heap.size+1,0,none⟩=some (.int .i64 vr)∧w1.drew.cell? ⟨w0.heap.size+1,1,none⟩=some (.slice (some ⟨b,o,none⟩) C.sts.length scap)∧w1.drew.cell? ⟨w0.heap.size+1,2,none⟩=some vt)∧w1.drew.cell? ⟨w0.heap.size+1,3,none⟩=some vh):=Lib.hid ⟨⟨HED.out.cells.1,HED.out.cells.2.1,HED.out.cells.2.2.1⟩,HED.out.cells.2.2.2.1⟩
    clear hb1 c0 c1 c2 c3 c4 HPA HE HE1 HG1
    go_wp2_with fail
    refine anyD_start (fun W=>(W.cell? ⟨w0.heap.size+1,0,none⟩=some (.int .i64 vr)∧W.cell? ⟨w0.heap.size+1,1,none⟩=some (.slice (some ⟨b,o,none⟩) C.sts.length scap)∧W.cell? ⟨w0.heap.size+1,2,none⟩=some vt)∧W.cell? ⟨w0.heap.size+1,3,none⟩=some vh) (fun i=>[].contains i) (by kernel_rfl) ?_
    refine anyD_t 0 (.pointer (some ⟨w0.heap.size+1,0,none⟩)) ?_
    try simp only [Act.put,sx]
    refine anyD_t 1 (.pointer (some ⟨w0.heap.size+1,0,none⟩)) ?_
    try simp only [Act.put,sx]
    refine anyD_t 2 (.pointer (some ⟨w0.heap.size+1,0,none⟩)) ?_
    try simp only [Act.put,sx]
    refine anyD_l 3 (.agg #[.int .i64 vr,.slice (some ⟨b,o,none⟩) C.sts.length scap,vt]) (HSD.out) ?_
    try simp only [Act.put,sx]
    refine anyD_t 4 (.pointer (some ⟨w0.heap.size+1,0,none⟩)) ?_
    try simp only [Act.put,sx]
    refine anyD_t 5 (.pointer (some ⟨w0.heap.size+1,0,none⟩)) ?_
    try simp only [Act.put,sx]
    refine anyD_t 6 (.pointer (some ⟨w0.heap.size+1,3,none⟩)) ?_
    try simp only [Act.put,sx]
    refine anyD_l 7 vh (HSD.out) ?_
    try simp only [Act.put,sx]
    refine anyD_t 8 (.int .i64 (k:Int)) ?_
    try simp only [Act.put,sx]
    refine anyD_one (i:=9) rfl rfl (by kernel_rfl) (fun K HK=>?_)
    go_simp
    refine (stands_any vr _ vt vh C H k w0 _ HED.out.below HN.out.has HN.out.hist (by have:=HN.out.tame.len; omega) HN.out.hlen hk).mono ?_
    rintro e w3 ⟨hb3,v3,rfl,hl3⟩
    rw [HSTD.out] at hl3
    have HE3:=Lib.hid (HED.out.kept hb3)
    have HG3:=Lib.hid (gr_below HGD.out hb3)
    have HL3:Hid (LiAt (fun b=>b ≠ w0.heap.size) w3 v3 l):=Lib.hid (hl3.mono fun b _ hb=>by have:=HED.out.lt; omega)
    clear hb3 hl3
    go_simp
    refine HK.out _ _ (fun _ hS=>⟨⟨HE3.out.cells.1,HE3.out.cells.2.1,HE3.out.cells.2.2.1⟩,HE3.out.cells.2.2.2.1⟩) ?_
    clear HK K
    try simp only [Act.put,sx]
    refine anyD_t 10 v3 ?_
    try simp only [Act.put,sx]
    refine anyD_done (by kernel_rfl) ?_
    obtain ⟨lA,lcap,rfl,hlc⟩:=RowsAt.slice HL3.out
    have hll:=HOL.out
    clear HED HGD HSD HOL
    go_wp2_with fail
    go_loopw [6] (fun i wr=>∃ (q:Nat) (A2:Nat→Bool),q≤l.length∧i=.int .i64 (q:Int)∧Hid (DAt w0 vr (.slice (some ⟨b,o,none⟩) C.sts.length scap) vt vh C.sts.length A2 wr)∧Hid (w.grownBy wr (some w0.heap.size))∧Hid (LiAt (fun b=>b ≠ w0.heap.size) wr (.slice lA l.length lcap) l)∧Hid (RR=l.foldl (aboveW C.sts (someD C.sts) addS (dB C.sts H f) P) ((l.drop q).foldl (dB C.sts H f) A2))) (fun i _=>l.length - (intOf i).toNat)
    case atStart=>exact ⟨0,A,Nat.zero_le _,rfl,HE3,HG3,HL3,HRA⟩
    case round =>
      clear HE3 HG3 HL3 HRA
      obtain ⟨q,A2,hq,rfl,HE,HG,HL,HR⟩:=hrel
      obtain ⟨wo,rfl⟩:∃ wo:World,wo=wr:=⟨_,rfl⟩
      by_cases hlt:q < l.length
      · obtain ⟨mb,mo,hmA,hmbl,hmc0,hmne⟩:=(let ⟨_,_,h1,_,h3⟩:=HL.out; by injection h1 with e1 e2 e3; subst e1; exact h3 q _ (List.getElem?_eq_getElem hlt):∃ b o,lA=some ⟨b,o,none⟩∧b < wo.heap.size∧(IntAt wo b (o+q * 1) l[q])∧_)
        subst hmA
        have d0:wo.cell? ⟨mb,mo+q,none⟩=some (.int .i64 l[q]):=by have:=hmc0; unfold IntAt at this; rwa [Nat.mul_one] at this
        have hRK:=HR.out
        rw [List.drop_eq_getElem_cons hlt,List.foldl_cons] at hRK
        have HRK:=Lib.hid hRK
        have HXA:=Lib.hid (HALL.out l[q] (List.getElem_mem hlt))
        have HAT:Hid (l[q]?=some l[q]):=Lib.hid (List.getElem?_eq_getElem hlt)
        generalize l[q]=x at *
        clear hmc0 hmne hRK HR
        go_wp2_with fail
        refine (HF.out x A2 _ HXA.out.1 HXA.out.2.1 HE.out).mono ?_
        rintro e w6 ⟨rfl,hg6,he6⟩
        have HE6:=Lib.hid he6
        have HG6:=Lib.hid (HG.out.trans hg6)
        have HL6:=Lib.hid (HL.out.grown hg6 fun b _ hb h=>hb (by injection h))
        clear hg6 he6
        go_wp2_with fail
        go_roundw
        case rel=>exact ⟨q+1,_,by omega,by go_num,HE6,HG6,HL6,HRK⟩
        case measure=>simp [intOf]; omega
      · obtain rfl:q=l.length:=by omega
        have hR:=HR.out
        rw [List.drop_length,List.foldl_nil] at hR
        have HRR:=Lib.hid hR
        clear hR
        go_wp2_with fail
        go_loopw [7] (fun i wr=>∃ (q:Nat) (A2:Nat→Bool),q≤l.length∧i=.int .i64 (q:Int)∧Hid (DAt w0 vr (.slice (some ⟨b,o,none⟩) C.sts.length scap) vt vh C.sts.length A2 wr)∧Hid (w.grownBy wr (some w0.heap.size))∧Hid (LiAt (fun b=>b ≠ w0.heap.size) wr (.slice lA l.length lcap) l)∧Hid (RR=(l.drop q).foldl (aboveW C.sts (someD C.sts) addS (dB C.sts H f) P) A2)) (fun i _=>l.length - (intOf i).toNat)
        case atStart=>exact ⟨0,A2,Nat.zero_le _,rfl,HE,HG,HL,HRR⟩
        case round =>
          clear HE HG HL HRR hlt hq
          obtain ⟨q,A2,hq,rfl,HE,HG,HL,HR⟩:=hrel
          obtain ⟨wo,rfl⟩:∃ wo:World,wo=wr:=⟨_,rfl⟩
          by_cases hlt:q < l.length
          · obtain ⟨mb,mo,hmA,hmbl,hmc0,hmne⟩:=(let ⟨_,_,h1,_,h3⟩:=HL.out; by injection h1 with e1 e2 e3; subst e1; exact h3 q _ (List.getElem?_eq_getElem hlt):∃ b o,lA=some ⟨b,o,none⟩∧b < wo.heap.size∧(IntAt wo b (o+q * 1) l[q])∧_)
            subst hmA
            have d0:wo.cell? ⟨mb,mo+q,none⟩=some (.int .i64 l[q]):=by have:=hmc0; unfold IntAt at this; rwa [Nat.mul_one] at this
            have hRK:=HR.out
            rw [List.drop_eq_getElem_cons hlt,List.foldl_cons] at hRK
            have HRK:=Lib.hid hRK
            have HXA:=Lib.hid (HALL.out l[q] (List.getElem_mem hlt))
            have HAT:Hid (l[q]?=some l[q]):=Lib.hid (List.getElem?_eq_getElem hlt)
            generalize l[q]=x at *
            clear hmc0 hmne hRK HR
            have HED:=Lib.hid HE.out.drew
            have HGD:=Lib.hid (gr_drew HG.out)
            have HLD:=Lib.hid (HL.out.below (Below.refl _ wo).drew)
            have HSD:Hid (wo.drew.cell? ⟨w0.heap.size+1,1,none⟩=some (.slice (some ⟨b,o,none⟩) C.sts.length scap)∧wo.drew.cell? ⟨mb,mo+q,none⟩=some (.int .i64 x)∧wo.drew.cell? ⟨b,o+k * 5+1,none⟩=some (.int .i64 P)):=Lib.hid ⟨HE.out.cells.2.1,d0,(HST.out.below HE.out.below hbl).2.1⟩
            have HX:Hid (isSt C.sts x=true∧UpOk C.sts f P x):=Lib.hid ⟨HXA.out.1,HXA.out.2.2⟩
            clear d0 HE HG HL
            go_wp2_with fail
            refine anyD_start (fun W=>W.cell? ⟨w0.heap.size+1,1,none⟩=some (.slice (some ⟨b,o,none⟩) C.sts.length scap)∧W.cell? ⟨mb,mo+q,none⟩=some (.int .i64 x)∧W.cell? ⟨b,o+k * 5+1,none⟩=some (.int .i64 P)) (fun i=>[].contains i) (by kernel_rfl) ?_
            refine anyD_t 0 (.pointer (some ⟨w0.heap.size+1,0,none⟩)) ?_
            try simp only [Act.put,sx]
            refine anyD_t 1 (.slice (some ⟨mb,mo,none⟩) l.length lcap) ?_
            try simp only [Act.put,sx]
            refine anyD_t 2 (.int .i64 (q:Int)) ?_
            try simp only [Act.put,sx]
            refine anyD_t 3 (.pointer (some ⟨mb,mo+q,none⟩)) ?_
            try simp only [Act.put,sx]
            refine anyD_l 4 (.int .i64 x) (HSD.out) ?_
            try simp only [Act.put,sx]
            refine anyD_t 5 (.pointer (some ⟨w0.heap.size+1,0,none⟩)) ?_
            try simp only [Act.put,sx]
            refine anyD_t 6 (.pointer (some ⟨w0.heap.size+1,0,none⟩)) ?_
            try simp only [Act.put,sx]
            refine anyD_t 7 (.pointer (some ⟨w0.heap.size+1,0,none⟩)) ?_
            try simp only [Act.put,sx]
            refine anyD_t 8 (.pointer (some ⟨w0.heap.size+1,1,none⟩)) ?_
            try simp only [Act.put,sx]
            refine anyD_l 9 (.slice (some ⟨b,o,none⟩) C.sts.length scap) (HSD.out) ?_
            try simp only [Act.put,sx]
            refine anyD_t 10 (.int .i64 (k:Int)) ?_
            try simp only [Act.put,sx]
            refine anyD_t 11 (.pointer (some ⟨b,o+k * 5,none⟩)) ?_
            try simp only [Act.put,sx]
            refine anyD_t 12 (.pointer (some ⟨b,o+k * 5+1,none⟩)) ?_
            try simp only [Act.put,sx]
            refine anyD_l 13 (.int .i64 P) (HSD.out) ?_
            try simp only [Act.put,sx]
            refine anyD_one (i:=14) rfl rfl (by kernel_rfl) (fun K HK=>?_)
            go_simp
            refine (above_any' HN.out HF.out x P A2 _ HX.out.1 HED.out HX.out.2).mono ?_
            rintro e w6 ⟨rfl,hg6,he6⟩
            have HE6:=Lib.hid he6
            have HG6:=Lib.hid (HGD.out.trans hg6)
            have HL6:=Lib.hid (HLD.out.grown hg6 fun b _ hb h=>hb (by injection h))
            clear hg6 he6
            go_simp
            refine HK.out _ _ (fun _ hS=>⟨HE6.out.cells.2.1,li_cell HL6.out HAT.out,(HST.out.below HE6.out.below hbl).2.1⟩) ?_
            clear HK K
            try simp only [Act.put,sx]
            refine anyD_done (by kernel_rfl) ?_
            go_wp2_with fail
            go_roundw
            case rel=>exact ⟨q+1,_,by omega,by go_num,HE6,HG6,HL6,HRK⟩
            case measure=>simp [intOf]; omega
          · obtain rfl:q=l.length:=by omega
            have hR:=HR.out
            rw [List.drop_length,List.foldl_nil] at hR
            have HRR:=Lib.hid hR
            clear hR
            go_wp2_with fail
            go_end0
            exact ⟨rfl,HG.out,by rw [HRR.out]; exact HE.out⟩
  | false =>
    rw [hh] at HPA
    rw [if_neg (by rw [hh]; simp)] at hR
    have HR:=Lib.hid hR
    have HKD3:Hid ((stAt C.sts (k:Int)).kind=3→∀ x ∈ kids C.sts (k:Int),isSt C.sts x=true∧rk C.sts x < f):=Lib.hid (fun h3 x hx=>⟨(kids_rk hta hs hh x hx).1,by have:=(kids_rk hta hs hh x hx).2.1; omega⟩)
    have HINI:Hid ((stAt C.sts (k:Int)).kind=2→∃ t,(stAt C.sts (k:Int)).ini=[t]∧isSt C.sts t=true∧rk C.sts t < f∧UpOk C.sts f (k:Int) t):=Lib.hid (fun h2=>by
      obtain ⟨t,h1,_⟩:=hta.ini2 _ hs h2
      obtain ⟨q1,q2,q3⟩:=rk_comp_all hta hs h2 t (by rw [h1]; simp)
      exact ⟨t,h1,q1,by omega,fun p hp=>⟨(q3 p hp).1,(q3 p hp).2.1,fun y hy=>⟨((q3 p hp).2.2 y hy).1,by have:=((q3 p hp).2.2 y hy).2; omega⟩⟩⟩)
    have HLST:=Lib.hid hhas.1
    obtain ⟨iA,icap,eA,ecap,xA,xcap,rfl,rfl,rfl⟩:=hhas.slices
    have HBB:Hid (∀ W,Below w.heap.size w W→DAt w0 vr (.slice (some ⟨b,o,none⟩) C.sts.length scap) vt vh C.sts.length A W):=Lib.hid (fun W hb=>HE.out.kept hb)
    clear hN hF hE hs hr hst hhas hR hh hta
    go_enter Tryz.func71,Tryz.ntmps71
    go_wp2_with fail
    refine HPA.out.mono ?_
    rintro e w1 ⟨rfl,hb1⟩
    have HE1:=Lib.hid (HBB.out w1 hb1)
    have HG1:Hid (w.grownBy w1 (some w0.heap.size)):=Lib.hid (only_of_below hb1 _)
    clear hb1 c0 c1 c2 c3 c4 HPA HE HBB
    obtain ⟨c0,c1,c2,c3,c4⟩:=HE1.out.cells
    obtain ⟨hbc,hfz⟩:=HE1.out.bit k hk
    have HE2:Hid (DAt w0 vr (.slice (some ⟨b,o,none⟩) C.sts.length scap) vt vh C.sts.length (addS A (k:Int)) (w1.setCell ⟨w0.heap.size,k,none⟩ (.bool true))):=Lib.hid (HE1.out.put k hk)
    have HG2:Hid (w.grownBy (w1.setCell ⟨w0.heap.size,k,none⟩ (.bool true)) (some w0.heap.size)):=Lib.hid (gr_set HG1.out k _)
    obtain ⟨p0,p1,p2,p3,p4⟩:=HE2.out.cells
    obtain ⟨q0,q1,q2,q3,q4⟩:=HST.out.below HE2.out.below hbl
    clear HE1 HG1
    generalize hKD:(stAt C.sts (k:Int)).kind=KD at *
    generalize hIN:(stAt C.sts (k:Int)).ini=IN at *
    generalize (stAt C.sts (k:Int)).ent.length=el at *
    generalize (stAt C.sts (k:Int)).exi.length=xl at *
    generalize hW2:w1.setCell ⟨w0.heap.size,k,none⟩ (.bool true)=W2 at *
    by_cases h2:KD=2
    · have hR:=HR.out
      rw [if_pos h2] at hR
      obtain ⟨t,rfl,ht1,ht2,ht3⟩:=HINI.out h2
      have HL2:Hid (LiAt (fun b=>b ≠ w0.heap.size) W2 (.slice iA 1 icap) [t]):=Lib.hid (list_in HLST.out HE2.out.below)
      obtain ⟨mb,mo,hmA,_⟩:=(let ⟨_,_,h1,_,h3⟩:=HL2.out; by injection h1 with e1 e2 e3; subst e1; exact h3 0 t rfl:∃ b o,iA=some ⟨b,o,none⟩∧b < W2.heap.size∧(IntAt W2 b (o+0 * 1) t)∧_)
      subst hmA
      have d0:W2.cell? ⟨mb,mo,none⟩=some (.int .i64 t):=li_cell (k:=0) HL2.out rfl
      have h22:(KD == 2)=true:=by simpa using h2
      have h33:(KD == 3)=false:=by rw [h2]; rfl
      have HT:=Lib.hid (⟨ht1,ht2,ht3⟩:isSt C.sts t=true∧rk C.sts t < f∧UpOk C.sts f (k:Int) t)
      have HRR:Hid (RR=aboveW C.sts (someD C.sts) addS (dB C.sts H f) (k:Int) (dB C.sts H f (addS A (k:Int)) t) t):=Lib.hid hR
      have HKE:=Lib.hid hKD
      clear hR h2 ht1 ht2 ht3 HINI HKD3 hIN HLST HR hKD
      go_wp2_with fail
      refine (HF.out t _ _ HT.out.1 HT.out.2.1 HE2.out).mono ?_
      rintro e w6 ⟨rfl,hg6,he6⟩
      have HE6:=Lib.hid he6
      have HG6:=Lib.hid (HG2.out.trans hg6)
      have HL6:=Lib.hid (HL2.out.grown hg6 fun b _ hb h=>hb (by injection h))
      have d6:w6.cell? ⟨mb,mo,none⟩=some (.int .i64 t):=li_cell (k:=0) HL6.out rfl
      obtain ⟨s0,s1,s2,s3,s4⟩:=HE6.out.cells
      obtain ⟨r0,r1,r2,r3,r4⟩:=HST.out.below HE6.out.below hbl
      clear hg6 he6 p0 p1 p2 p3 p4 q0 q1 q2 q3 q4 d0
      go_wp2_with fail
      refine (above_any' HN.out HF.out t (k:Int) _ _ HT.out.1 HE6.out HT.out.2.2).mono ?_
      rintro e w7 ⟨rfl,hg7,he7⟩
      have HE7:=Lib.hid he7
      have HG7:=Lib.hid (HG6.out.trans hg7)
      obtain ⟨t0,t1,t2,t3,t4⟩:=HE7.out.cells
      obtain ⟨v0,v1,v2,v3,v4⟩:=HST.out.below HE7.out.below hbl
      rw [HKE.out] at v0
      clear hg7 he7 s0 s1 s2 s3 s4 r0 r1 r2 r3 r4 d6
      go_wp2_with fail
      go_end0
      exact ⟨rfl,HG7.out,by rw [HRR.out]; exact HE7.out⟩
    · have hR:=HR.out
      rw [if_neg h2] at hR
      have h22:(KD == 2)=false:=by simpa using h2
      by_cases h3:KD=3
      · rw [if_pos h3] at hR
        have h33:(KD == 3)=true:=by simpa using h3
        have HRR:=Lib.hid hR
        have HK3:=Lib.hid (HKD3.out h3)
        clear hR h2 h3 HINI HKD3 hIN HLST HR hKD
        go_wp2_with fail
        refine (regions_any HN.out HF.out (k:Int) _ _ HE2.out HK3.out).mono ?_
        rintro e w7 ⟨rfl,hg7,he7⟩
        have HE7:=Lib.hid he7
        have HG7:=Lib.hid (HG2.out.trans hg7)
        clear hg7 he7
        go_wp2_with fail
        go_end0
        exact ⟨rfl,HG7.out,by rw [HRR.out]; exact HE7.out⟩
      · rw [if_neg h3] at hR
        have h33:(KD == 3)=false:=by simpa using h3
        have HRR:=Lib.hid hR
        clear hR h2 h3 HINI HKD3 hIN HLST HR hKD
        go_wp2_with fail
        go_end0
        exact ⟨rfl,HG2.out,by rw [HRR.out]; exact HE2.out⟩
theorem down_ok {w0:World} {vr:Int} {vs vt vh:Value} {C:Ch} {H:List Nat} (hN:DEnt w0 vr vs vt vh C H):∀ f,DownOK w0 vr vs vt vh C H f
  | 0=>fun _ _ _ _ h _=>by omega
  | f+1=>down_step hN (down_ok hN f)
end Go.Proofs.YtfgkcjmeiabdjaaGreatDoor
/- The contracts of the document's Bits and Enter. -/
namespace Go.Proofs.YtfgkcjmeiabdjaaGreatDoor
open Go.ChangeShapes Go.WideShapes Go.ChangeAt Go.RowKit
set_option linter.unusedVariables false

theorem Tryz.info4:(Tryz.prog.info? 4).map (fun i=>(i.zero,i.size,i.bytes))=some (some (.bool false),1,1):=by kernel_rfl
theorem half (n m:Nat):n / 2 ^ m=n / 2 ^ (m+1) * 2+n / 2 ^ m % 2:=by
  rw [Nat.pow_succ,← Nat.div_div_eq_div_mul]
  omega
set_option maxHeartbeats 2000000 in
set_option maxRecDepth 100000 in
theorem bits_any {w0:World} {vr:Int} {vs vt vh:Value} {n:Nat} {A:Nat→Bool} (w:World) (hE:DAt w0 vr vs vt vh n A w) (hn:n≤31) :
    Calls Tryz.prog 33 #[.slice (some ⟨w0.heap.size,0,none⟩) n n] w fun e w'=>e=.returned (.int .u32 ((bset A n:Nat):Int))∧w=w':=by
  have HB:=Lib.hid (fun k hk=>(hE.bit k hk).1)
  have HNB:=Lib.hid (fun k (hk:k < n)=>bset_bit A n k hk)
  have hsm:=bset_u32 A hn
  have H0:Hid (bset A n / 2 ^ n=0):=Lib.hid (Nat.div_eq_of_lt (bset_lt A n))
  have H1:Hid (bset A n / 2 ^ 0=bset A n):=Lib.hid (by simp)
  generalize bset A n=N at *
  clear hE
  go_enter Tryz.func33,Tryz.ntmps33
  go_wp2_with fail
  go_loopw [3,4] (fun v i wr=>∃ m:Nat,m≤n∧i=.int .i64 ((m:Int) - 1)∧v=.int .u32 ((N / 2 ^ m:Nat):Int)∧wr=w) (fun _ i _=>(intOf i+1).toNat)
  case atStart=>exact ⟨n,Nat.le_refl _,by go_num,by rw [H0.out]; rfl,rfl⟩
  case round =>
    obtain ⟨m,hm,rfl,rfl,rfl⟩:=hrel
    by_cases h0:m=0
    · subst h0
      go_wp2_with fail
      go_ret
      exact ⟨ret_int (by rw [H1.out]),rfl⟩
    · obtain ⟨j,rfl⟩:∃ j,m=j+1:=⟨m - 1,by omega⟩
      have e1:((j+1:Nat):Int) - 1=(j:Int):=by omega
      rw [e1]
      have hge:decide (0≤(j:Int))=true:=by simp
      have c0:wr.cell? ⟨w0.heap.size,j,none⟩=some (.bool (A j)):=HB.out j (by omega)
      have hbit:=HNB.out j (by omega)
      have hhf:=half N j
      have hle:N / 2 ^ j≤N:=Nat.div_le_self _ _
      generalize hq:N / 2 ^ (j+1)=q at *
      generalize hp:N / 2 ^ j=p at *
      have hw:IntKind.u32.wrap ((q:Int) * 2)=(q:Int) * 2:=wrap_u32 _ (by omega) (by have:(2:Int) ^ 32=4294967296:=rfl; omega)
      cases hA:A j with
      | true =>
        rw [hA] at c0 hbit
        have hpq:p=q * 2+1:=by rw [if_pos rfl] at hbit; omega
        have hw2:IntKind.u32.wrap ((q:Int) * 2+1)=(q:Int) * 2+1:=wrap_u32 _ (by omega) (by have:(2:Int) ^ 32=4294967296:=rfl; omega)
        have HP:=Lib.hid hp
        have HPQ:=Lib.hid hpq
        clear hq hp hhf hbit hA hpq
        go_wp2_with fail
        go_roundw
        case rel=>exact ⟨j,by omega,by go_num,by rw [HP.out,HPQ.out]; go_num,trivial⟩
        case measure=>simp [intOf]
      | false =>
        rw [hA] at c0 hbit
        have hpq:p=q * 2:=by rw [if_neg (by simp)] at hbit; omega
        have HP:=Lib.hid hp
        have HPQ:=Lib.hid hpq
        clear hq hp hhf hbit hA hpq
        go_wp2_with fail
        go_roundw
        case rel=>exact ⟨j,by omega,by go_num,by rw [HP.out,HPQ.out]; go_num,trivial⟩
        case measure=>simp [intOf]
theorem list_in0 {w0 w:World} {v:Value} {L:List Int} (h:ListAt w0 v L) (hb:Below w0.heap.size w0 w):LiAt (fun b=>b ≠ w0.heap.size) w v L:=list_in h hb
theorem realIn_valid {S:List St}:∀ (M acc:List Int),(∀ x ∈ M,isSt S x=true)→(∀ x ∈ acc,isSt S x=true)→∀ x ∈ M.foldl realIn acc,isSt S x=true
  | [],acc,_,h,x,hx=>h x hx
  | y :: M,acc,hM,h,x,hx=>realIn_valid M (realIn acc y) (fun z hz=>hM z (List.mem_cons_of_mem _ hz)) (fun z hz=>by
      rcases realIn_mem.1 hz with hz | hz
      · exact h z hz
      · rw [hz]; exact hM y (List.mem_cons_self ..)) x hx
theorem real_valid {S:List St} (hT:Tame S) (H:List Nat) (l:List Int):∀ x ∈ realS S H l,isSt S x=true:=by
  have:∀ (l acc:List Int),(∀ x ∈ acc,isSt S x=true)→∀ x ∈ l.foldl (fun acc s=>(ofS S H s).foldl realIn acc) acc,isSt S x=true:=by
    intro l
    induction l with
    | nil=>intro acc h; exact h
    | cons s l ih=>intro acc h; exact ih _ (realIn_valid _ _ (of_valid hT H s).2 h)
  exact this l [] (fun x hx=>by cases hx)
set_option maxHeartbeats 8000000 in
set_option maxRecDepth 100000 in
theorem renter_any (vr a:Int) (vs vt vh vl:Value) (C:Ch) (H:List Nat) (l:List Int) (w:World) (hC:ChHas w vs vt C) (hH:HistAt w vh H) (hv:ListAt w vl l) (hta:Tame C.sts) (hG:∀ s,s < H.length→GoodAt C.sts H s) (hHl:H.length≤1000) (hll:l.length≤1000) :
    Calls Tryz.prog 29 #[.agg #[.int .i64 vr,vs,vt],vh,.int .i64 a,vl] w fun e w'=>e=.returned (.int .u32 ((bset (dSet C.sts H a l) C.sts.length:Nat):Int))∧Below w.heap.size w w':=by
  have hlen:=hta.len
  obtain ⟨i1,hi1,hz1,hs1,hy1⟩:=info_parts Tryz.info4
  have HMK:Hid (∀ W:World,(Instr.makeSlice 48 (.int .i64 (C.sts.length:Int)) (.int .i64 (C.sts.length:Int))).run Tryz.prog W=.ok (.slice (some ⟨W.heap.size,0,none⟩) C.sts.length C.sts.length) (W.alloc (.cells (madeCells #[.bool false] C.sts.length) 4))):=Lib.hid (fun W=>by
    have:=run_make (P:=Tryz.prog) W 48 4 i1 (.bool false) Tryz.underlying48 hi1 hz1 .i64 .i64 (C.sts.length:Int) (C.sts.length:Int) (by omega) (by omega) (by rw [hy1]; omega) (by omega)
    rw [hs1] at this
    simpa [Value.cells] using this)
  obtain ⟨g1,g2⟩:=good_std hta hG
  have HENT:=Lib.hid (fun (W:World) (hb:Below w.heap.size w W)=>(⟨hC.below hb,hH.below hb,hta,hHl,g1,g2,fun s=>by have:=(of_valid hta H s).1; omega⟩:DEnt W vr vs vt vh C H))
  have HRA:=Lib.hid (fun (W:World) (hb:Below w.heap.size w W)=>rreal_any vr vs vt vh vl C H l W (hC.below hb) (hH.below hb) (hv.below hb) hta hHl hll)
  have HLV:=Lib.hid hv
  have HRV:=Lib.hid (real_valid hta H l)
  have hrl:(realS C.sts H l).length≤31000:=by have:=real_len hta H l; omega
  obtain ⟨M,hM⟩:∃ M,M=l.foldl (dB C.sts H (C.sts.length+2)) (fun _=>false):=⟨_,rfl⟩
  obtain ⟨D,hD⟩:∃ D,D=(realS C.sts H l).foldl (aboveW C.sts (someD C.sts) addS (dB C.sts H (C.sts.length+2)) a) M:=⟨_,rfl⟩
  have HRES:Hid (dSet C.sts H a l=D):=Lib.hid (by rw [hD,hM]; rfl)
  have HM:=Lib.hid hM
  have HD:=Lib.hid hD
  obtain ⟨sA,scap,rfl,hscap⟩:=RowsAt.slice hC.1
  obtain ⟨lA,lcap,rfl,hlcap⟩:=RowsAt.slice hv
  obtain ⟨hA,hcap,rfl,hhcap⟩:=RowsAt.slice hH
  generalize realS C.sts H l=RL at *
  clear hC hH hv hta hG hM hD g1 g2 hi1 hz1 hs1 hy1
  go_enter Tryz.func29,Tryz.ntmps29
  go_wp2_with fail
  refine anyD_start (fun W=>W.cell? ⟨w.heap.size,0,none⟩=some (.int .i64 vr)∧W.cell? ⟨w.heap.size,1,none⟩=some (.slice sA C.sts.length scap)∧W.cell? ⟨w.heap.size,2,none⟩=some vt) (fun i=>[].contains i) (by kernel_rfl) ?_
  have HBX0:Hid (Blk (w.alloc (chBox vr (.slice sA C.sts.length scap) vt)).drew w.heap.size 25 #[.int .i64 vr,(.slice sA C.sts.length scap),vt]):=Lib.hid (Blk.new w 25 _)
  have HSD:Hid ((w.alloc (chBox vr (.slice sA C.sts.length scap) vt)).drew.cell? ⟨w.heap.size,0,none⟩=some (.int .i64 vr)∧(w.alloc (chBox vr (.slice sA C.sts.length scap) vt)).drew.cell? ⟨w.heap.size,1,none⟩=some (.slice sA C.sts.length scap)∧(w.alloc (chBox vr (.slice sA C.sts.length scap) vt)).drew.cell? ⟨w.heap.size,2,none⟩=some vt):=Lib.hid HBX0.out.facts3.1
  obtain ⟨w0,hw0⟩:∃ w0,w0=(w.alloc (chBox vr (.slice sA C.sts.length scap) vt)).drew:=⟨_,rfl⟩
  rw [← hw0] at HBX0 HSD ⊢
  have HW0:=Lib.hid hw0
  clear hw0
  refine anyD_l 0 (.agg #[.int .i64 vr,.slice sA C.sts.length scap,vt]) (HSD.out) ?_
  try simp only [Act.put,sx]
  refine anyD_t 1 (.slice hA H.length hcap) ?_
  try simp only [Act.put,sx]
  refine anyD_t 2 (.pointer (some ⟨w.heap.size,1,none⟩)) ?_
  try simp only [Act.put,sx]
  refine anyD_l 3 (.slice sA C.sts.length scap) (HSD.out) ?_
  try simp only [Act.put,sx]
  refine anyD_t 4 (.int .i64 (C.sts.length:Int)) ?_
  try simp only [Act.put,sx]
  refine anyD_one (i:=5) rfl rfl (by kernel_rfl) (fun K HK=>?_)
  have hmk:=HMK.out w0
  go_simp
  refine HK.out _ _ (fun _ hS=>(HBX0.out.alloc _).facts3.1) ?_
  clear HK K hmk
  try simp only [Act.put,sx]
  refine anyD_t 6 (.agg #[.int .i64 vr,.slice sA C.sts.length scap,vt,.slice hA H.length hcap,.slice (some ⟨w0.heap.size,0,none⟩) C.sts.length C.sts.length]) ?_
  try simp only [Act.put,sx]
  refine anyD_one (i:=7) rfl rfl (by kernel_rfl) (fun K HK=>?_)
  go_simp
  refine HK.out _ _ (fun _ hS=>((HBX0.out.alloc _).alloc _).facts3.1) ?_
  clear HK K
  try simp only [Act.put,sx]
  refine anyD_t 8 (.pointer (some ⟨w0.heap.size+1,0,none⟩)) ?_
  try simp only [Act.put,sx]
  refine anyD_done (by kernel_rfl) ?_
  have HBW:Hid (Below w.heap.size w w0):=Lib.hid (by rw [HW0.out]; exact (below_box w _).drew)
  have HN:=Lib.hid (HENT.out w0 HBW.out)
  have HBL:Hid (w.heap.size < w0.heap.size):=Lib.hid (by rw [HW0.out]; show _ < (w.alloc _).heap.size; simp)
  have HE0:Hid (DAt w0 vr (.slice sA C.sts.length scap) vt (.slice hA H.length hcap) C.sts.length (fun _=>false) ((w0.alloc (.cells (madeCells #[.bool false] C.sts.length) 4)).alloc (.cells #[.int .i64 vr,(.slice sA C.sts.length scap),vt,.slice hA H.length hcap,.slice (some ⟨w0.heap.size,0,none⟩) C.sts.length C.sts.length] 125))):=Lib.hid (by
    refine ⟨(below_box w0 _).trans ((below_box _ _).mono (by simp)),Blk.new_at (w0.alloc _) 125 _ _ (by simp),_,(Blk.new w0 4 _).alloc _,by simp [madeCells],fun i hi=>?_⟩
    simp [madeCells,hi,Nat.mod_one])
  have HL0:Hid (LiAt (fun b=>b ≠ w0.heap.size) ((w0.alloc (.cells (madeCells #[.bool false] C.sts.length) 4)).alloc (.cells #[.int .i64 vr,(.slice sA C.sts.length scap),vt,.slice hA H.length hcap,.slice (some ⟨w0.heap.size,0,none⟩) C.sts.length C.sts.length] 125)) (.slice lA l.length lcap) l):=Lib.hid (list_in0 (HLV.out.below HBW.out) ((below_box w0 _).trans ((below_box _ _).mono (by simp))))
  clear HW0 HSD HENT
  go_wp2_with fail
  go_loopw [10] (fun i wr=>∃ (k:Nat) (A2:Nat→Bool),k≤l.length∧i=.int .i64 (k:Int)∧Hid (DAt w0 vr (.slice sA C.sts.length scap) vt (.slice hA H.length hcap) C.sts.length A2 wr)∧Hid (LiAt (fun b=>b ≠ w0.heap.size) wr (.slice lA l.length lcap) l)∧Hid (M=(l.drop k).foldl (dB C.sts H (C.sts.length+2)) A2)) (fun i _=>l.length - (intOf i).toNat)
  case atStart=>exact ⟨0,_,Nat.zero_le _,rfl,HE0,HL0,HM⟩
  case round =>
    clear HE0 HL0 HM
    obtain ⟨k,A2,hk,rfl,HE,HL,HR⟩:=hrel
    obtain ⟨wo,rfl⟩:∃ wo:World,wo=wr:=⟨_,rfl⟩
    by_cases hlt:k < l.length
    · obtain ⟨mb,mo,hmA,hmbl,hmc0,hmne⟩:=(let ⟨_,_,h1,_,h3⟩:=HL.out; by injection h1 with e1 e2 e3; subst e1; exact h3 k _ (List.getElem?_eq_getElem hlt):∃ b o,lA=some ⟨b,o,none⟩∧b < wo.heap.size∧(IntAt wo b (o+k * 1) l[k])∧_)
      subst hmA
      have d0:wo.cell? ⟨mb,mo+k,none⟩=some (.int .i64 l[k]):=by have:=hmc0; unfold IntAt at this; rwa [Nat.mul_one] at this
      have hRK:=HR.out
      rw [List.drop_eq_getElem_cons hlt,List.foldl_cons] at hRK
      have HRK:=Lib.hid hRK
      have HAT:Hid (l[k]?=some l[k]):=Lib.hid (List.getElem?_eq_getElem hlt)
      have HMEM:Hid (l[k] ∈ l):=Lib.hid (List.getElem_mem hlt)
      generalize l[k]=x at *
      clear hmc0 hmne hRK HR
      cases hisx:isSt C.sts x with
      | false =>
        have HISX:=Lib.hid hisx
        rw [dB_none _ _ hisx] at HRK
        clear hisx
        go_wp2_with fail
        clear d0
        refine anyD_start (fun W=>(W.cell? ⟨w.heap.size,0,none⟩=some (.int .i64 vr)∧W.cell? ⟨w.heap.size,1,none⟩=some (.slice sA C.sts.length scap)∧W.cell? ⟨w.heap.size,2,none⟩=some vt)∧W.cell? ⟨mb,mo+k,none⟩=some (.int .i64 x)) (fun i=>[].contains i) (by kernel_rfl) ?_
        have HED:=Lib.hid HE.out.drew
        have HLD:=Lib.hid (HL.out.below (Below.refl _ wo).drew)
        have HSD5:Hid ((wo.drew.cell? ⟨w.heap.size,0,none⟩=some (.int .i64 vr)∧wo.drew.cell? ⟨w.heap.size,1,none⟩=some (.slice sA C.sts.length scap)∧wo.drew.cell? ⟨w.heap.size,2,none⟩=some vt)∧wo.drew.cell? ⟨mb,mo+k,none⟩=some (.int .i64 x)):=Lib.hid ⟨(HBX0.out.below HED.out.below HBL.out).facts3.1,li_cell HLD.out HAT.out⟩
        refine anyD_l 0 (.agg #[.int .i64 vr,.slice sA C.sts.length scap,vt]) (HSD5.out) ?_
        try simp only [Act.put,sx]
        refine anyD_t 1 (.slice (some ⟨mb,mo,none⟩) l.length lcap) ?_
        try simp only [Act.put,sx]
        refine anyD_t 2 (.int .i64 (k:Int)) ?_
        try simp only [Act.put,sx]
        refine anyD_t 3 (.pointer (some ⟨mb,mo+k,none⟩)) ?_
        try simp only [Act.put,sx]
        refine anyD_l 4 (.int .i64 x) (HSD5.out) ?_
        try simp only [Act.put,sx]
        refine anyD_one (i:=5) rfl rfl (by kernel_rfl) (fun K HK=>?_)
        go_simp
        refine (there_any vr x _ vt C _ (HN.out.has.below HED.out.below) (by have:=HN.out.tame.len; omega)).mono ?_
        rintro e w6 ⟨rfl,hb6⟩
        have HE6:=Lib.hid (HED.out.kept hb6)
        have HL6:=Lib.hid (HLD.out.below hb6)
        rw [HISX.out]
        clear hb6
        go_simp
        refine HK.out _ _ (fun _ hS=>⟨(HBX0.out.below HE6.out.below HBL.out).facts3.1,li_cell HL6.out HAT.out⟩) ?_
        clear HK K
        try simp only [Act.put,sx]
        refine anyD_done (by kernel_rfl) ?_
        go_wp2_with fail
        go_roundw
        case rel=>exact ⟨k+1,A2,by omega,by go_num,HE6,HL6,HRK⟩
        case measure=>simp [intOf]; omega
      | true =>
        have HISX:=Lib.hid hisx
        clear hisx
        go_wp2_with fail
        clear d0
        refine anyD_start (fun W=>(W.cell? ⟨w.heap.size,0,none⟩=some (.int .i64 vr)∧W.cell? ⟨w.heap.size,1,none⟩=some (.slice sA C.sts.length scap)∧W.cell? ⟨w.heap.size,2,none⟩=some vt)∧W.cell? ⟨mb,mo+k,none⟩=some (.int .i64 x)) (fun i=>[].contains i) (by kernel_rfl) ?_
        have HED:=Lib.hid HE.out.drew
        have HLD:=Lib.hid (HL.out.below (Below.refl _ wo).drew)
        have HSD5:Hid ((wo.drew.cell? ⟨w.heap.size,0,none⟩=some (.int .i64 vr)∧wo.drew.cell? ⟨w.heap.size,1,none⟩=some (.slice sA C.sts.length scap)∧wo.drew.cell? ⟨w.heap.size,2,none⟩=some vt)∧wo.drew.cell? ⟨mb,mo+k,none⟩=some (.int .i64 x)):=Lib.hid ⟨(HBX0.out.below HED.out.below HBL.out).facts3.1,li_cell HLD.out HAT.out⟩
        refine anyD_l 0 (.agg #[.int .i64 vr,.slice sA C.sts.length scap,vt]) (HSD5.out) ?_
        try simp only [Act.put,sx]
        refine anyD_t 1 (.slice (some ⟨mb,mo,none⟩) l.length lcap) ?_
        try simp only [Act.put,sx]
        refine anyD_t 2 (.int .i64 (k:Int)) ?_
        try simp only [Act.put,sx]
        refine anyD_t 3 (.pointer (some ⟨mb,mo+k,none⟩)) ?_
        try simp only [Act.put,sx]
        refine anyD_l 4 (.int .i64 x) (HSD5.out) ?_
        try simp only [Act.put,sx]
        refine anyD_one (i:=5) rfl rfl (by kernel_rfl) (fun K HK=>?_)
        go_simp
        refine (there_any vr x _ vt C _ (HN.out.has.below HED.out.below) (by have:=HN.out.tame.len; omega)).mono ?_
        rintro e w6 ⟨rfl,hb6⟩
        have HE6:=Lib.hid (HED.out.kept hb6)
        have HL6:=Lib.hid (HLD.out.below hb6)
        rw [HISX.out]
        clear hb6
        go_simp
        refine HK.out _ _ (fun _ hS=>⟨(HBX0.out.below HE6.out.below HBL.out).facts3.1,li_cell HL6.out HAT.out⟩) ?_
        clear HK K
        try simp only [Act.put,sx]
        refine anyD_done (by kernel_rfl) ?_
        have d6:=li_cell HL6.out HAT.out
        go_wp2_with fail
        refine ((down_ok HN.out (C.sts.length+2)) x A2 _ HISX.out (rk_lt2 HISX.out) HE6.out).mono ?_
        rintro e w7 ⟨rfl,hg7,he7⟩
        have HE7:=Lib.hid he7
        have HL7:=Lib.hid (HL6.out.grown hg7 fun b _ hb h=>hb (by injection h))
        clear hg7 he7 d6
        go_wp2
        go_roundw
        case rel=>exact ⟨k+1,_,by omega,by go_num,HE7,HL7,HRK⟩
        case measure=>simp [intOf]; omega
    · obtain rfl:k=l.length:=by omega
      have hR:=HR.out
      rw [List.drop_length,List.foldl_nil] at hR
      have HRR:=Lib.hid hR
      clear hR
      have HRL:=Lib.hid (HRA.out wo (HBW.out.trans (HE.out.below.mono HBW.out.size)))
      obtain ⟨z0,z1,z2⟩:=(HBX0.out.below HE.out.below HBL.out).facts3.1
      go_wp2_with fail
      refine HRL.out.mono ?_
      rintro e w3 ⟨hb3,v3,rfl,ho3⟩
      have HE2:=Lib.hid (HE.out.kept hb3)
      rw [← HRR.out] at HE2
      have HL2:Hid (LiAt (fun b=>b ≠ w0.heap.size) w3 v3 RL):=Lib.hid (LiAt.of_own ho3 fun b hb=>by have:=HE.out.lt; omega)
      obtain ⟨rA,rcap,rfl,hrc⟩:=RowsAt.slice HL2.out
      clear hb3 ho3 HE HRR HRL z0 z1 z2
      go_wp2_with fail
      go_loopw [12] (fun i wr=>∃ (k:Nat) (A2:Nat→Bool),k≤RL.length∧i=.int .i64 (k:Int)∧Hid (DAt w0 vr (.slice sA C.sts.length scap) vt (.slice hA H.length hcap) C.sts.length A2 wr)∧Hid (LiAt (fun b=>b ≠ w0.heap.size) wr (.slice rA RL.length rcap) RL)∧Hid (D=(RL.drop k).foldl (aboveW C.sts (someD C.sts) addS (dB C.sts H (C.sts.length+2)) a) A2)) (fun i _=>RL.length - (intOf i).toNat)
      case atStart=>exact ⟨0,M,Nat.zero_le _,rfl,HE2,HL2,HD⟩
      case round =>
        clear HE2 HL2 HD HL hlt hk
        obtain ⟨k,A2,hk,rfl,HE,HL,HR⟩:=hrel
        obtain ⟨wo,rfl⟩:∃ wo:World,wo=wr:=⟨_,rfl⟩
        by_cases hlt:k < RL.length
        · obtain ⟨mb,mo,hmA,hmbl,hmc0,hmne⟩:=(let ⟨_,_,h1,_,h3⟩:=HL.out; by injection h1 with e1 e2 e3; subst e1; exact h3 k _ (List.getElem?_eq_getElem hlt):∃ b o,rA=some ⟨b,o,none⟩∧b < wo.heap.size∧(IntAt wo b (o+k * 1) RL[k])∧_)
          subst hmA
          have d0:wo.cell? ⟨mb,mo+k,none⟩=some (.int .i64 RL[k]):=by have:=hmc0; unfold IntAt at this; rwa [Nat.mul_one] at this
          have hRK:=HR.out
          rw [List.drop_eq_getElem_cons hlt,List.foldl_cons] at hRK
          have HRK:=Lib.hid hRK
          have HAT:Hid (RL[k]?=some RL[k]):=Lib.hid (List.getElem?_eq_getElem hlt)
          have HMEM:Hid (RL[k] ∈ RL):=Lib.hid (List.getElem_mem hlt)
          generalize RL[k]=x at *
          clear hmc0 hmne hRK HR
          go_wp2_with fail
          refine (above_any' HN.out (down_ok HN.out (C.sts.length+2)) x a A2 _ (HRV.out x HMEM.out) HE.out (upOk_any HN.out.tame a x _ (by omega))).mono ?_
          rintro e w7 ⟨rfl,hg7,he7⟩
          have HE7:=Lib.hid he7
          have HL7:=Lib.hid (HL.out.grown hg7 fun b _ hb h=>hb (by injection h))
          clear hg7 he7
          go_wp2
          go_roundw
          case rel=>exact ⟨k+1,_,by omega,by go_num,HE7,HL7,HRK⟩
          case measure=>simp [intOf]; omega
        · obtain rfl:k=RL.length:=by omega
          have hR:=HR.out
          rw [List.drop_length,List.foldl_nil] at hR
          have HRR:=Lib.hid hR
          clear hR
          obtain ⟨c0,c1,c2,c3,c4⟩:=HE.out.cells
          rw [← HRR.out] at HE
          go_wp2_with fail
          refine (bits_any wo HE.out (by omega)).mono ?_
          rintro e w9 ⟨rfl,rfl⟩
          go_wp2_with fail
          go_ret
          exact ⟨ret_int (by rw [HRES.out]),HBW.out.trans (HE.out.below.mono HBW.out.size)⟩
end Go.Proofs.YtfgkcjmeiabdjaaGreatDoor
