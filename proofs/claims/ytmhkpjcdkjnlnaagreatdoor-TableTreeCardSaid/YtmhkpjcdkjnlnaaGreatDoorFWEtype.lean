/- The contract of expr.step over a stack of values, and of expr.Type. -/
import Derived.Test.YtmhkpjcdkjnlnaaGreatDoorFWEstepl
import Derived.Test.YtmhkpjcdkjnlnaaGreatDoorFWPopd
import Derived.Test.YtmhkpjcdkjnlnaaGreatDoorFWTmay
namespace Go.Proofs.YtmhkpjcdkjnlnaaGreatDoor
open Go.ChangeShapes Go.WideShapes Go.ChangeAt Go.RowKit
set_option linter.unusedVariables false

def kindsOf (S:List Vl):List Int:=S.reverse.map Vl.kind
theorem kindsOf_cons (x:Vl) (S:List Vl):kindsOf (x :: S)=kindsOf S ++ [x.kind]:=by simp [kindsOf]
theorem kindsOf_len (S:List Vl):(kindsOf S).length=S.length:=by simp [kindsOf]
def LPost (m:Md) (g B:Nat) (gives:Int) (v:Value) (u:Vl) (S':List Vl) (w:World) (e:Ending) (w':World):Prop :=
 (∃ c,u=.bad c∧(c=4 ∨ c=8)∧SErr c w e w') ∨ (((u=.bad 9∧m.ty=false) ∨ ∃ n,u=.ok gives n)∧SOk B v (kindsOf S' ++ [gives]) w e w')
theorem fb_none_cons {x:Vl} {S:List Vl} (h:fb (x :: S)=none):(∃ k n,x=.ok k n)∧fb S=none:=by
 rw [fb_cons] at h
 cases hS:fb S with
 | some c=>rw [hS] at h; cases h
 | none =>
  rw [hS] at h
  cases x with
  | bad c=>cases h
  | ok k n=>exact ⟨⟨k,n,rfl⟩,rfl⟩
theorem good_kind {k n:Int} (h:Good (.ok k n)):k=1 ∨ k=2:=Or.elim h (fun h=>.inl h.1) (fun h=>.inr h.1)
theorem var_not {m:Md} {t:Tk} (h:¬ (t.1=2∧m.lim≤t.2.1)):(t.1 == 2)=false ∨ (t.1=2∧t.2.1 < m.lim):=by
 by_cases h2:t.1=2
 · exact .inr ⟨h2,by omega⟩
 · exact .inl (by simpa using h2)
theorem step_leaf (m:Md) (t:Tk) (B:Nat) (v:Value) (S:List Vl) (w:World) (hown:w.ownsRow B 3 1 v S.length (intVals (kindsOf S))) (hl:S.length≤1000) (hB:B≤w.heap.size) (ht:tak t=0) :
 Calls Tryz.prog 178 #[v,.agg #[.int .i64 t.1,.int .i64 t.2.1,.int .i64 t.2.2],.int .i64 m.lim] w (LPost m 0 B (rul t.1).2.2 v (leafV m t) S w):=by
 by_cases hv:t.1=2∧m.lim≤t.2.1
 · rw [hv.1]
   refine (step_none v t.2.1 t.2.2 m.lim w hv.2).mono fun e w' h=>.inl ⟨4,leaf_none hv.1 hv.2,.inl rfl,h⟩
 · obtain ⟨n,hn⟩:=leaf_some (m:=m) ht hv
   have hv':=var_not hv
   obtain ⟨r1,r2⟩:=rul_leaf ht
   have hown':=hown
   rcases hown.2 with ⟨rfl,h0⟩ | ⟨g,cap,cur,rfl,_,_,hcap,_⟩
   · obtain rfl:S=[]:=List.eq_nil_of_length_eq_zero h0
     exact (step_nil t.1 t.2.1 t.2.2 m.lim B w r1 hv' hB).mono fun e w' h=>.inr ⟨.inr ⟨n,hn⟩,h⟩
   · by_cases hc:cap=S.length
     · subst hc
       exact (step_full t.1 t.2.1 t.2.2 m.lim B g S.length (kindsOf S) w hown' (kindsOf_len S) hl r1 hv' hB).mono fun e w' h=>.inr ⟨.inr ⟨n,hn⟩,h⟩
     · exact (step_room_ok t.1 t.2.1 t.2.2 m.lim B g S.length 0 cap (kindsOf S) [] w (by rw [List.append_nil]; exact hown') (kindsOf_len S) rfl (by omega) (by omega) r1 (fun k h=>by cases h) hv' hB rfl).mono fun e w' h=>.inr ⟨.inr ⟨n,hn⟩,h⟩
theorem step_un (m:Md) (t:Tk) (B:Nat) (v:Value) (k n:Int) (S:List Vl) (w:World) (hown:w.ownsRow B 3 1 v (S.length+1) (intVals (kindsOf S ++ [k]))) (hl:S.length≤900) (hB:B≤w.heap.size) (ht:tak t=1) (hk:k=1 ∨ k=2) :
 Calls Tryz.prog 178 #[v,.agg #[.int .i64 t.1,.int .i64 t.2.1,.int .i64 t.2.2],.int .i64 m.lim] w (LPost m 0 B (rul t.1).2.2 v (unV t (.ok k n)) S w):=by
 have hown':=hown
 have hr:=un_rul ht
 obtain ⟨s1,s2⟩:=un_step (n:=n) ht hk
 have hne:(t.1 == 2)=false:=by rcases tkk_one ht with rfl | rfl <;> rfl
 rcases hown.2 with ⟨_,h0⟩ | ⟨g,cap,cur,rfl,_,_,hcap,_⟩
 · omega
 · cases htk:tks (rul t.1).2.1 [k] with
   | true=>exact (step_room_ok t.1 t.2.1 t.2.2 m.lim B g S.length 1 cap (kindsOf S) [k] w hown' (kindsOf_len S) rfl (by omega) (by omega) hr (fun j h=>by obtain rfl:=List.mem_singleton.1 h; omega) (.inl hne) hB htk).mono fun e w' h=>.inr ⟨.inr (s1 htk),h⟩
   | false=>exact (step_room_bad t.1 t.2.1 t.2.2 m.lim B g S.length 1 cap (kindsOf S) [k] w hown' (kindsOf_len S) rfl (by omega) (by omega) hr (fun j h=>by obtain rfl:=List.mem_singleton.1 h; omega) (.inl hne) htk).mono fun e w' h=>.inl ⟨8,s2 htk,.inr rfl,h⟩
theorem step_bin (m:Md) (t:Tk) (B:Nat) (v:Value) (ak an bk bn:Int) (S:List Vl) (w:World) (hown:w.ownsRow B 3 1 v (S.length+2) (intVals (kindsOf S ++ [ak,bk]))) (hl:S.length≤900) (hB:B≤w.heap.size) (ht:tak t=2) (ha:ak=1 ∨ ak=2) (hb:bk=1 ∨ bk=2) :
 Calls Tryz.prog 178 #[v,.agg #[.int .i64 t.1,.int .i64 t.2.1,.int .i64 t.2.2],.int .i64 m.lim] w (fun e w'=>LPost m 0 B (rul t.1).2.2 v (binV m.ty t (.ok ak an) (.ok bk bn)) S w e w'∧(tks (rul t.1).2.1 [ak,bk]=false→SErr 8 w e w')):=by
 have hown':=hown
 have hr:=bin_rul ht
 obtain ⟨s1,s2⟩:=bin_step (ty:=m.ty) (an:=an) (bn:=bn) ht ha hb
 have hne:(t.1 == 2)=false:=by obtain ⟨kd,rfl,h3,_⟩:=tkk_two ht; simp; omega
 have hnz:∀ j ∈ [ak,bk],j ≠ 0:=fun j h=>by
  rcases List.mem_cons.1 h with rfl | h
  · omega
  · obtain rfl:=List.mem_singleton.1 h; omega
 rcases hown.2 with ⟨_,h0⟩ | ⟨g,cap,cur,rfl,_,_,hcap,_⟩
 · omega
 · cases htk:tks (rul t.1).2.1 [ak,bk] with
   | true=>exact (step_room_ok t.1 t.2.1 t.2.2 m.lim B g S.length 2 cap (kindsOf S) [ak,bk] w hown' (kindsOf_len S) rfl (by omega) (by omega) hr hnz (.inl hne) hB htk).mono fun e w' h=>⟨.inr ⟨(s1 htk).elim .inr (fun h=>.inl ⟨h.2,h.1⟩),h⟩,fun h=>by cases h⟩
   | false=>exact (step_room_bad t.1 t.2.1 t.2.2 m.lim B g S.length 2 cap (kindsOf S) [ak,bk] w hown' (kindsOf_len S) rfl (by omega) (by omega) hr hnz (.inl hne) htk).mono fun e w' h=>⟨.inl ⟨8,s2 htk,.inr rfl,h⟩,fun _=>h⟩
theorem step_any (m:Md) (t:Tk) (B:Nat) (v:Value) (S:List Vl) (w:World) (hown:w.ownsRow B 3 1 v S.length (intVals (kindsOf S))) (hf:fb S=none) (hg:AllGood S) (hl:S.length≤900) (hB:B≤w.heap.size) (h0:0≤tak t) (hn:tak t≤S.length) :
 Calls Tryz.prog 178 #[v,.agg #[.int .i64 t.1,.int .i64 t.2.1,.int .i64 t.2.2],.int .i64 m.lim] w (fun e w'=>∃ u S',vstep m t S=u :: S'∧fb S'=none∧LPost m 0 B (rul t.1).2.2 v u S' w e w'):=by
 rcases tak_cases t with c | c | c | c
 · omega
 · exact (step_leaf m t B v S w hown (by omega) hB c).mono fun e w' h=>⟨_,_,vstep0 _ c,hf,h⟩
 · rcases S with _ | ⟨x,S⟩
   · rw [c] at hn; simp at hn
   · obtain ⟨⟨k,n,rfl⟩,hf'⟩:=fb_none_cons hf
     rw [kindsOf_cons] at hown
     rw [List.length_cons] at hl
     exact (step_un m t B v k n S w hown (by omega) hB c (good_kind (hg (.ok k n) (by simp)))).mono fun e w' h=>⟨_,_,vstep1 _ _ c,hf',h⟩
 · rcases S with _ | ⟨x,_ | ⟨y,S⟩⟩
   · rw [c] at hn; simp at hn
   · rw [c] at hn; simp at hn
   · obtain ⟨⟨bk,bn,rfl⟩,hf1⟩:=fb_none_cons hf
     obtain ⟨⟨ak,an,rfl⟩,hf2⟩:=fb_none_cons hf1
     rw [kindsOf_cons,kindsOf_cons,List.append_assoc] at hown
     rw [List.length_cons,List.length_cons] at hl
     exact (step_bin m t B v ak an bk bn S w hown (by omega) hB c (good_kind (hg (.ok ak an) (by simp))) (good_kind (hg (.ok bk bn) (by simp)))).mono fun e w' h=>⟨_,_,vstep2 _ _ _ c,hf2,h.1⟩
def ans (m:Md) (ts:List Tk):Vl:=if mayP ts=true then (vs m ts ts.length).headD (.bad 0) else .bad 2
def TyPost (a:Vl) (w:World) (e:Ending) (w':World):Prop :=
 Below w.heap.size w w'∧match a with
  | .ok k _=>e=.returned (.tuple #[.int .i64 k,.nilIface])
  | .bad c=>e=.returned (.tuple #[.int .i64 0,.iface 82 (.int .i64 c)])
theorem stk_le' (ts:List Tk):∀ k,Valid ts k→(stk ts k).length≤k
 | 0,_=>Nat.le_refl _
 | k+1,h=>by
  have h1:=valid_len h
  have h2:=stk_le' ts k (h.mono (by omega))
  have h3:=(h k (by omega)).1
  omega
theorem neq_code_is (p:Value) (w:World):(binOp .neq 30 (.iface 82 p) .nilIface).run Tryz.prog w=.ok (.bool true) w:=by kernel_rfl
theorem ans_may (m:Md) {ts:List Tk} (hm:mayP ts=true):ts.length≤100∧Valid ts ts.length∧vs m ts ts.length=[ans m ts]:=by
 obtain ⟨hl,hV,x,hx⟩:=mayP_valid hm
 obtain ⟨v,hv⟩:=vs_top m hV (by rw [hx]; rfl)
 refine ⟨hl,hV,?_⟩
 unfold ans
 rw [if_pos hm,hv]
 rfl
set_option maxHeartbeats 4000000 in
set_option maxRecDepth 100000 in
theorem type_may (v:Value) (ts:List Tk) (vars:Int) (w:World) (hv:ToksAt w v ts) (hn:∀ t ∈ ts,t.2.1≤9223372036854775807) (hm:mayP ts=true):Calls Tryz.prog 143 #[v,.int .i64 vars] w (TyPost (ans ⟨true,[],vars⟩ ts) w):=by
 have HM:=Lib.hid (may_any v ts w hv (by have:=(mayP_valid hm).1; omega))
 obtain ⟨hl,hV,htop⟩:=ans_may ⟨true,[],vars⟩ hm
 have hlim:(⟨true,[],vars⟩:Md).lim=vars∧(⟨true,[],vars⟩:Md).ty=true:=⟨rfl,rfl⟩
 have HGD:=Lib.hid (fun i hi hvi=>vs_good ⟨true,[],vars⟩ hn (fun x hx=>by cases hx) i hi hvi)
 generalize (⟨true,[],vars⟩:Md)=md at *
 have HLIM:=Lib.hid hlim
 have HMP:=Lib.hid hm
 have HV:=Lib.hid hV
 have HTOP:=Lib.hid htop
 have hnn:=neq_nil_nil
 have hnc:=fun p W=>neq_code_is p W
 obtain ⟨A,cap,rfl,hc,hel⟩:=hv
 have HE:=Lib.hid hel
 clear hel hm hn hV htop hlim
 go_enter Tryz.func143,Tryz.ntmps143
 go_wp2_with fail
 refine HM.out.mono ?_
 rintro e w0 ⟨rfl,hb0⟩
 rw [HMP.out]
 have HB0:=Lib.hid hb0
 clear hb0
 go_wp2_with fail
 go_loopw [6,17] (fun v i wr=>∃ k:Nat,k≤ts.length∧i=.int .i64 (k:Int)∧Hid (fb (vs md ts k)=none)∧Below w.heap.size w wr∧Hid (wr.ownsRow w.heap.size 3 1 v (vs md ts k).length (intVals (kindsOf (vs md ts k))))) (fun _ i _=>ts.length - (intOf i).toNat)
 case atStart=>exact ⟨0,Nat.zero_le _,rfl,Lib.hid rfl,HB0.out,Lib.hid (World.ownsRow_nil _ _ _ _)⟩
 case round =>
  obtain ⟨k,hk,rfl,HF,hb,HOWN⟩:=hrel
  obtain ⟨wo,rfl⟩:∃ wo:World,wo=wr:=⟨_,rfl⟩
  by_cases hlt:k < ts.length
  · obtain ⟨b,o,rfl,hbw,c0,c1,c2⟩:=HE.out k ts[k] (List.getElem?_eq_getElem hlt)
    have c0:wo.cell? ⟨b,o+k * 3,none⟩=_:=(hb.cell (p:=⟨b,_,none⟩) hbw).trans c0
    have c1:wo.cell? ⟨b,o+k * 3+1,none⟩=_:=(hb.cell (p:=⟨b,_,none⟩) hbw).trans c1
    have c2:wo.cell? ⟨b,o+k * 3+2,none⟩=_:=(hb.cell (p:=⟨b,_,none⟩) hbw).trans c2
    have hg:ts.getD k (0,0,0)=ts[k]:=by simp [List.getD,List.getElem?_eq_getElem hlt]
    obtain ⟨ht0,htn⟩:=HV.out k hlt
    have hvl:=vs_len md ts k hk (HV.out.mono hk)
    have hst:=vs_succ md hlt
    have hsl:(vs md ts k).length≤100:=by rw [hvl]; have:=stk_le' ts k (HV.out.mono hk); omega
    rw [hg] at ht0 htn hst
    rw [← hvl] at htn
    generalize ts[k]=t at *
    have HST:=Lib.hid hst
    have HB1:=Lib.hid ((Below.refl wo.heap.size wo).alloc (Nat.le_refl _) (.cells #[.int .i64 t.1,.int .i64 t.2.1,.int .i64 t.2.2] 192))
    have HSA:=Lib.hid (step_any md t w.heap.size _ (vs md ts k) (wo.alloc (.cells #[.int .i64 t.1,.int .i64 t.2.1,.int .i64 t.2.2] 192)) (own_below HOWN.out HB1.out) HF.out (HGD.out k hk (HV.out.mono hk)) (by omega) (by simp; have:=hb.size; omega) ht0 htn)
    rw [HLIM.out.1] at HSA
    have HXA:=Lib.hid (hb.trans (HB1.out.mono hb.size))
    have HLT:=Lib.hid (fun g hg=>(HOWN.out.lt g hg).1)
    clear hg hst hvl hsl htn ht0 HF
    go_wp2_with fail
    refine HSA.out.mono ?_
    rintro e w1 ⟨u,S',hu,hfS,hP⟩
    rcases hP with ⟨c,rfl,hc48,rfl,hb1⟩ | ⟨huk,g,gcap,rfl,hgr,hown',hat,hglt⟩
    · have HA:=Lib.hid (bad_end md HV.out (by omega) HTOP.out (HST.out.trans hu) hfS)
      have HX:=Lib.hid (HXA.out.trans (hb1.mono HXA.out.size))
      clear hu hfS hb1 hc48
      go_wp2_with fail
      go_ret2
      rw [HA.out]
      exact ⟨HX.out,rfl⟩
    · have HU:Hid (∃ n,u=.ok (rul t.1).2.2 n):=Lib.hid (huk.elim (fun h=>by rw [HLIM.out.2] at h; cases h.2) id)
      have HX:=Lib.hid (HXA.out.grown hgr HXA.out.size (fun g hg=>HLT.out g hg))
      have HO:=Lib.hid hown'
      have HUU:=Lib.hid hu
      have HFS:=Lib.hid hfS
      clear hu hfS hgr hown' hat huk
      go_wp2
      go_roundw
      case rel =>
       obtain ⟨n,rfl⟩:=HU.out
       refine ⟨k+1,by omega,by go_num,Lib.hid ?_,HX.out,Lib.hid ?_⟩
       · rw [HST.out,HUU.out,fb_cons,HFS.out]; rfl
       · rw [HST.out,HUU.out,kindsOf_cons,List.length_cons,kindsOf_len]
         have:=HO.out
         rw [List.length_append,kindsOf_len] at this
         exact this
      case measure=>simp [intOf]; omega
  · obtain rfl:k=ts.length:=by omega
    have hF:=HF.out
    have hO:=HOWN.out
    rw [HTOP.out] at hF hO
    obtain ⟨⟨kk,nn,hAn⟩,_⟩:=fb_none_cons hF
    rw [hAn] at hO
    obtain ⟨g,gcap,rfl⟩:=slice_of_own hO
    have hcg:wo.cell? ⟨g,0,none⟩=some (.int .i64 kk):=own_cell hO 0 _ (by simp [intVals,kindsOf,Vl.kind])
    have HAN:=Lib.hid hAn
    clear hF hO hAn HF HOWN
    go_wp2_with fail
    go_ret2
    rw [HAN.out]
    exact ⟨hb,rfl⟩
end Go.Proofs.YtmhkpjcdkjnlnaaGreatDoor
