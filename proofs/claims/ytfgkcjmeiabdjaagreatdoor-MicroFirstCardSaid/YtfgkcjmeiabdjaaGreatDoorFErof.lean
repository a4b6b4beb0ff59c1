/- The contract of the document's End at any place; of its Type and Eval. -/
import Derived.Test.YtfgkcjmeiabdjaaGreatDoorFEendb
import Derived.Test.YtfgkcjmeiabdjaaGreatDoorFEevalw
import Derived.Test.YtfgkcjmeiabdjaaGreatDoorFPparse
import Derived.Test.YtfgkcjmeiabdjaaGreatDoorFQparse
namespace Go.Proofs.YtfgkcjmeiabdjaaGreatDoor
open Go.ChangeShapes Go.WideShapes Go.ChangeAt Go.RowKit
set_option linter.unusedVariables false

def REnd (m:Md) (ts:List Tk) (n:Nat):Prop:=∀ (A:Option Addr) (cap:Nat) (ve:Value) (at_:Nat) (x:El) (S:List El) (u:Vl) (VS:List Vl) (z:Int) (w:World),at_ < n→at_ < ts.length→ts.length≤100→m.env.length≤1000→Valid ts (at_+1)→ToksAt w (.slice A ts.length cap) ts→NumsAt w ve m.env →
    (∀ t ∈ ts,t.2.1≤9223372036854775807)→(∀ y ∈ m.env,F64 y)→stk ts (at_+1)=x :: S→vs m ts (at_+1)=u :: VS→z=(at_:Int) →
    Calls Tryz.prog 172 #[.slice A ts.length cap,.int .i64 z,ve,.int .i64 m.vars,.bool m.ty] w (EPost u x.f w)
theorem bad_ne {c:Int} (h:Good (.bad c)):c ≠ 0:=by rcases h with h | h | h <;> omega
theorem un_end (m:Md) (ts:List Tk) (b o cap k f:Nat) (t:Tk) (y:Vl) (ve:Value) (w:World) (hk:k < ts.length) (hk1:1≤k) (hl:ts.length≤100) (ht:tak t=1) (hg:Good y) (hlt:b < w.heap.size) (c0:w.cell? ⟨b,o+k * 3,none⟩=some (.int .i64 t.1)) (c1:w.cell? ⟨b,o+k * 3+1,none⟩=some (.int .i64 t.2.1)) (c2:w.cell? ⟨b,o+k * 3+2,none⟩=some (.int .i64 t.2.2)) (hcc:ts.length≤cap)
    (HIH:∀ w' z,Below w.heap.size w w'→z=((k - 1:Nat):Int)→Calls Tryz.prog 172 #[.slice (some ⟨b,o,none⟩) ts.length cap,.int .i64 z,ve,.int .i64 m.vars,.bool m.ty] w' (EPost y f w')) :
    Calls Tryz.prog 172 #[.slice (some ⟨b,o,none⟩) ts.length cap,.int .i64 (k:Int),ve,.int .i64 m.vars,.bool m.ty] w (EPost (unV t y) f w):=by
  rcases tkk_one ht with rfl | rfl
  · cases y with
    | bad c=>exact end_not_bad ts b o cap k f m.vars m.ty ve w hk hk1 hl c (bad_ne hg) hlt c0 c1 c2 hcc HIH
    | ok k' n =>
      rcases good_kind hg with rfl | rfl
      · exact end_not_no ts b o cap k f m.vars m.ty ve w hk hk1 hl n hlt c0 c1 c2 hcc HIH
      · exact end_not_ok ts b o cap k f m.vars m.ty ve w hk hk1 hl n hlt c0 c1 c2 hcc HIH
  · cases y with
    | bad c=>exact end_neg_bad ts b o cap k f m.vars m.ty ve w hk hk1 hl c (bad_ne hg) hlt c0 c1 c2 hcc HIH
    | ok k' n =>
      rcases good_kind hg with rfl | rfl
      · exact end_neg_ok ts b o cap k f m.vars m.ty ve w hk hk1 hl n hlt c0 c1 c2 hcc HIH
      · exact end_neg_no ts b o cap k f m.vars m.ty ve w hk hk1 hl n hlt c0 c1 c2 hcc HIH
theorem bin_end (m:Md) (ts:List Tk) (b o cap k f fb:Nat) (t:Tk) (x y:Vl) (ve:Value) (w:World) (hk:k < ts.length) (hk1:1≤k) (hl:ts.length≤100) (ht:tak t=2) (hgx:Good x) (hgy:Good y) (hfb:1≤fb∧fb≤k) (hlt:b < w.heap.size) (c0:w.cell? ⟨b,o+k * 3,none⟩=some (.int .i64 t.1)) (c1:w.cell? ⟨b,o+k * 3+1,none⟩=some (.int .i64 t.2.1)) (c2:w.cell? ⟨b,o+k * 3+2,none⟩=some (.int .i64 t.2.2)) (hcc:ts.length≤cap)
    (HIH:∀ w' z,Below w.heap.size w w'→z=((k - 1:Nat):Int)→Calls Tryz.prog 172 #[.slice (some ⟨b,o,none⟩) ts.length cap,.int .i64 z,ve,.int .i64 m.vars,.bool m.ty] w' (EPost y fb w'))
    (HIH2:∀ w' z,Below w.heap.size w w'→z=((fb - 1:Nat):Int)→Calls Tryz.prog 172 #[.slice (some ⟨b,o,none⟩) ts.length cap,.int .i64 z,ve,.int .i64 m.vars,.bool m.ty] w' (EPost x f w')) :
    Calls Tryz.prog 172 #[.slice (some ⟨b,o,none⟩) ts.length cap,.int .i64 (k:Int),ve,.int .i64 m.vars,.bool m.ty] w (EPost (binV m.ty t x y) f w):=by
  obtain ⟨kd,rfl,h3,h13⟩:=tkk_two ht
  cases x with
  | bad c=>exact end_bin_abad ts b o cap k f fb kd m.vars m.ty ve w hk hk1 hl ⟨h3,h13⟩ hfb c (bad_ne hgx) y hlt c0 c1 c2 hcc HIH HIH2
  | ok ak an =>
    cases y with
    | bad d=>exact end_bin_bbad ts b o cap k f fb kd m.vars m.ty ve w hk hk1 hl ⟨h3,h13⟩ hfb ak an d (bad_ne hgy) hlt c0 c1 c2 hcc HIH HIH2
    | ok bk bn =>
      rw [binV_ok]
      cases hV:twoV kd ak an bk bn with
      | ok vk vn =>
        rw [if_neg (by simp [Vl.code])]
        exact end_bin_ok ts b o cap k f fb kd m.vars m.ty ve w hk hk1 hl ⟨h3,h13⟩ hfb ak an bk bn ⟨hgx,hgy⟩ vk vn hV hlt c0 c1 c2 hcc HIH HIH2
      | bad vc =>
        by_cases h9:vc=9
        · subst h9
          cases hty:m.ty with
          | true =>
            rw [if_pos (by simp [Vl.code])]
            rw [hty] at HIH HIH2
            exact end_bin_b9t ts b o cap k f fb kd m.vars ve w hk hk1 hl ⟨h3,h13⟩ hfb ak an bk bn ⟨hgx,hgy⟩ hV hlt c0 c1 c2 hcc HIH HIH2
          | false =>
            rw [if_neg (by simp)]
            rw [hty] at HIH HIH2
            exact end_bin_b9e ts b o cap k f fb kd m.vars ve w hk hk1 hl ⟨h3,h13⟩ hfb ak an bk bn ⟨hgx,hgy⟩ hV hlt c0 c1 c2 hcc HIH HIH2
        · rw [if_neg (by simp [Vl.code]; intro _ h; exact absurd h h9)]
          exact end_bin_b8 ts b o cap k f fb kd m.vars m.ty ve w hk hk1 hl ⟨h3,h13⟩ hfb ak an bk bn ⟨hgx,hgy⟩ vc h9 hV hlt c0 c1 c2 hcc HIH HIH2
theorem leaf_end (m:Md) (ts:List Tk) (b o cap k:Nat) (t:Tk) (ve:Value) (w:World) (hk:k < ts.length) (hl:ts.length≤100) (hel:m.env.length≤1000) (hE:NumsAt w ve m.env) (ht:tak t=0) (hlt:b < w.heap.size) (c0:w.cell? ⟨b,o+k * 3,none⟩=some (.int .i64 t.1)) (c1:w.cell? ⟨b,o+k * 3+1,none⟩=some (.int .i64 t.2.1)) (c2:w.cell? ⟨b,o+k * 3+2,none⟩=some (.int .i64 t.2.2)) (hcc:ts.length≤cap) :
    Calls Tryz.prog 172 #[.slice (some ⟨b,o,none⟩) ts.length cap,.int .i64 (k:Int),ve,.int .i64 m.vars,.bool m.ty] w (EPost (leafV m t) k w):=by
  obtain ⟨h2,h0,hk'⟩:=tkk_zero ht
  obtain ⟨kd,x,a⟩:=t
  simp only at h2 h0 hk' c0 c1 c2
  subst h2
  rcases hk' with rfl | ⟨rfl,hx⟩ | ⟨rfl,rfl⟩ | ⟨rfl,rfl⟩
  · exact end_num ts b o cap k x m.vars ve w hk hl m.ty hlt c0 c1 c2 hcc
  · unfold leafV Md.lim
    simp only
    rw [if_neg (by omega),if_pos trivial]
    cases hty:m.ty with
    | true =>
      rw [if_pos rfl]
      by_cases hv:x < m.vars
      · rw [if_pos hv]; exact end_var_t ts b o cap k x m.vars ve w hk hl hv hlt c0 c1 c2 hcc
      · rw [if_neg hv]; exact end_var_tb ts b o cap k x m.vars ve w hk hl (by omega) hlt c0 c1 c2 hcc
    | false =>
      rw [if_neg Bool.false_ne_true]
      obtain ⟨eA,ecap,rfl,hec,hei⟩:=hE
      by_cases hv:x < (m.env.length:Int)
      · rw [if_pos hv,if_neg Bool.false_ne_true]
        obtain ⟨j,rfl⟩:∃ j:Nat,x=(j:Int):=⟨x.toNat,by omega⟩
        have hj:j < m.env.length:=by omega
        obtain ⟨vb,vo,rfl,hvb,cv⟩:=hei j m.env[j] (List.getElem?_eq_getElem hj)
        have hg:m.env.getD ((j:Int).toNat) 0=m.env[j]:=by rw [Int.toNat_natCast,List.getD,List.getElem?_eq_getElem hj]; rfl
        rw [hg]
        exact end_var_e ts b o cap k m.vars w hk hl vb vo ecap m.env.length j m.env[j] hel hj hvb cv hlt c0 c1 c2 hcc
      · rw [if_neg hv]
        exact end_var_eb ts b o cap k x m.vars w hk hl eA ecap m.env.length hel (by omega) hlt c0 c1 c2 hcc
  · exact end_true ts b o cap k m.vars ve w hk hl m.ty hlt c0 c1 c2 hcc
  · exact end_false ts b o cap k m.vars ve w hk hl m.ty hlt c0 c1 c2 hcc
theorem end_all (m:Md) (ts:List Tk):∀ n,REnd m ts n
  | 0=>fun A cap ve at_ x S u VS z w h=>by omega
  | n+1=>fun A cap ve k x S u VS z w hn hk hl hel hV hv hE hN hef hst hvs hz=>by
    subst hz
    have ih:=end_all m ts n
    have hg:ts[k]?=some ts[k]:=List.getElem?_eq_getElem hk
    have hgd:ts.getD k (0,0,0)=ts[k]:=by simp [List.getD,hg]
    obtain ⟨h0,h1⟩:=hV k (by omega)
    have hvl:=vs_len m ts k (by omega) (hV.mono (by omega))
    have hgood:=vs_good m hN hef k (by omega) (hV.mono (by omega))
    rw [stk_succ] at hst
    rw [vs_succ m hk] at hvs
    rw [hgd] at h0 h1 hst hvs
    obtain ⟨b,o,rfl,hlt,c0,c1,c2,hcc⟩:=tok_lies hv hg
    generalize ts[k]=t at *
    rcases tak_cases t with c | c | c | c
    · omega
    · rw [step0 _ c] at hst
      rw [vstep0 _ c] at hvs
      injection hst with hx hS
      injection hvs with hu hVS
      subst hx; subst hu
      exact leaf_end m ts b o cap k t ve w hk hl hel hE c hlt c0 c1 c2 hcc
    · rcases hs:stk ts k with _ | ⟨y,S'⟩
      · rw [hs,c] at h1; simp at h1
      · rcases hw:vs m ts k with _ | ⟨y',VS'⟩
        · rw [hs,hw] at hvl; simp at hvl
        · rw [hs,step1 _ _ c] at hst
          rw [hw,vstep1 _ _ c] at hvs
          injection hst with hx hS
          injection hvs with hu hVS
          subst hx; subst hu
          have hk1:1≤k:=by
            rcases Nat.eq_zero_or_pos k with rfl | h
            · cases hs
            · exact h
          rw [hw] at hgood
          exact un_end m ts b o cap k y.f t y' ve w hk hk1 hl c (hgood y' (by simp)) hlt c0 c1 c2 hcc fun w' z hb hz =>
            ih _ cap ve (k - 1) y S' y' VS' z w' (by omega) (by omega) hl hel (hV.mono (by omega)) (hv.below hb) (hE.below hb) hN hef (by rw [show k - 1+1=k by omega]; exact hs) (by rw [show k - 1+1=k by omega]; exact hw) hz
    · rcases hs:stk ts k with _ | ⟨y,_ | ⟨a,S'⟩⟩
      · rw [hs,c] at h1; simp at h1
      · rw [hs,c] at h1; simp at h1
      · rcases hw:vs m ts k with _ | ⟨y',_ | ⟨a',VS'⟩⟩
        · rw [hs,hw] at hvl; simp at hvl
        · rw [hs,hw] at hvl; simp at hvl
        · rw [hs,step2 _ _ _ c] at hst
          rw [hw,vstep2 _ _ _ c] at hvs
          injection hst with hx hS
          injection hvs with hu hVS
          subst hx; subst hu
          have hk1:1≤k:=by
            rcases Nat.eq_zero_or_pos k with rfl | h
            · cases hs
            · exact h
          have hun:=stk_under ts k k (Nat.le_refl _) (hV.mono (by omega)) y (a :: S') hs
          have hvn:=vs_under m ts k k (Nat.le_refl _) (by omega) (hV.mono (by omega)) y (a :: S') y' (a' :: VS') hs hw
          have hbf1:1≤y.f:=by
            rcases Nat.eq_zero_or_pos y.f with h | h
            · have h2:=hun.2; rw [h] at h2; cases h2
            · exact h
          rw [hw] at hgood
          exact bin_end m ts b o cap k a.f y.f t a' y' ve w hk hk1 hl c (hgood a' (by simp)) (hgood y' (by simp)) ⟨hbf1,by omega⟩ hlt c0 c1 c2 hcc
            (fun w' z hb hz=>ih _ cap ve (k - 1) y (a :: S') y' (a' :: VS') z w' (by omega) (by omega) hl hel (hV.mono (by omega)) (hv.below hb) (hE.below hb) hN hef (by rw [show k - 1+1=k by omega]; exact hs) (by rw [show k - 1+1=k by omega]; exact hw) hz)
            (fun w' z hb hz=>ih _ cap ve (y.f - 1) a S' a' VS' z w' (by omega) (by omega) hl hel (hV.mono (by omega)) (hv.below hb) (hE.below hb) hN hef (by rw [show y.f - 1+1=y.f by omega]; exact hun.2.symm) (by rw [show y.f - 1+1=y.f by omega]; exact hvn.symm) hz)
theorem end_top (m:Md) (ts:List Tk) (A:Option Addr) (cap:Nat) (ve:Value) (z:Int) (w:World) (hm:mayP ts=true) (hel:m.env.length≤1000) (hv:ToksAt w (.slice A ts.length cap) ts) (hE:NumsAt w ve m.env) (hN:∀ t ∈ ts,t.2.1≤9223372036854775807) (hef:∀ y ∈ m.env,F64 y) (hz:z=(ts.length:Int) - 1) :
    Calls Tryz.prog 172 #[.slice A ts.length cap,.int .i64 z,ve,.int .i64 m.vars,.bool m.ty] w (fun e w'=>∃ f:Nat,EPost (ans m ts) f w e w')∧1≤ts.length:=by
  obtain ⟨hl,hV,htop⟩:=ans_may m hm
  obtain ⟨_,_,x,hx⟩:=mayP_valid hm
  have h1:1≤ts.length:=by
    rcases Nat.eq_zero_or_pos ts.length with h | h
    · rw [h] at hx; cases hx
    · exact h
  have e1:ts.length - 1+1=ts.length:=by omega
  exact ⟨(end_all m ts ts.length A cap ve (ts.length - 1) x [] (ans m ts) [] z w (by omega) (by omega) hl hel (by rw [e1]; exact hV) hv hE hN hef (by rw [e1]; exact hx) (by rw [e1]; exact htop) (by omega)).mono fun e w' h=>⟨_,h⟩,h1⟩
end Go.Proofs.YtfgkcjmeiabdjaaGreatDoor
/- The contracts of expr.Type and expr.Eval at any tokens, of the document's Type and Eval. -/
namespace Go.Proofs.YtfgkcjmeiabdjaaGreatDoor
open Go.ChangeShapes Go.WideShapes Go.ChangeAt Go.RowKit
set_option linter.unusedVariables false

theorem ans_not (m:Md) {ts:List Tk} (h:mayP ts=false):ans m ts=.bad 2:=by unfold ans; rw [if_neg (by rw [h]; exact Bool.false_ne_true)]
set_option maxHeartbeats 1000000 in
theorem type_any (v:Value) (ts:List Tk) (vars:Int) (w:World) (hv:ToksAt w v ts) (hl:ts.length≤1000) (hn:∀ t ∈ ts,t.2.1≤9223372036854775807):Calls Tryz.prog 131 #[v,.int .i64 vars] w (TyPost (ans ⟨true,[],vars⟩ ts) w):=by
  cases hm:mayP ts with
  | true=>exact type_may v ts vars w hv hn hm
  | false =>
    have HM:=Lib.hid (may_any v ts w hv (by omega))
    have HMP:=Lib.hid hm
    have HA:=Lib.hid (ans_not ⟨true,[],vars⟩ hm)
    obtain ⟨A,cap,rfl,hc,hel⟩:=hv
    clear hel hm
    go_enter Tryz.func131,Tryz.ntmps131
    go_wp2_with fail
    refine HM.out.mono ?_
    rintro e w0 ⟨rfl,hb0⟩
    rw [HMP.out]
    have HB0:=Lib.hid hb0
    clear hb0
    go_wp2_with fail
    go_ret2
    rw [HA.out]
    exact ⟨HB0.out,rfl⟩
set_option maxHeartbeats 1000000 in
theorem eval_any (v ve:Value) (ts:List Tk) (env:List Int) (w:World) (hv:ToksAt w v ts) (hl:ts.length≤1000) (hE:NumsAt w ve env) (hel:env.length≤1000) (hef:∀ x ∈ env,F64 x) (hn:∀ t ∈ ts,t.2.1≤9223372036854775807):Calls Tryz.prog 159 #[v,ve] w (VPost (ans ⟨false,env,0⟩ ts) w):=by
  cases hm:mayP ts with
  | true=>exact eval_may v ve ts env w hv hE hel hef hn hm
  | false =>
    have HBA:=Lib.hid ((Below.refl w.heap.size w).alloc (Nat.le_refl _) (.cells #[.int .i64 0,.int .i64 0] 172))
    have HM:=Lib.hid (may_any v ts _ (hv.below HBA.out) (by omega))
    have HMP:=Lib.hid hm
    have HA:=Lib.hid (ans_not ⟨false,env,0⟩ hm)
    obtain ⟨A,cap,rfl,hc,hel⟩:=hv
    clear hel hm
    go_enter Tryz.func159,Tryz.ntmps159
    go_wp2_with fail
    refine HM.out.mono ?_
    rintro e w0 ⟨rfl,hb0⟩
    rw [HMP.out]
    have HB0:=Lib.hid (HBA.out.trans (hb0.mono HBA.out.size))
    have HR0:=Lib.hid ((Blk.new w 172 #[.int .i64 0,.int .i64 0]).below hb0 (by simp))
    obtain ⟨⟨r0,r1⟩,f0,f1⟩:=HR0.out.facts2
    clear hb0
    go_wp2_with fail
    refine bodyPost_ret (results_pair Tryz.results159 _ _ w.heap.size _ _ (by rfl) (HR0.out.set2 _ _)) rfl ⟨(HB0.out.setCell (by simp) _).setCell (by simp) _,?_⟩
    rw [HA.out]
    rfl
theorem valOf_parts (u:Vl):valOf u=.agg #[.int .i64 u.kind,.int .i64 u.num,.int .i64 u.code]:=by cases u <;> rfl
set_option maxHeartbeats 4000000 in
set_option maxRecDepth 100000 in
theorem reval_any (v ve:Value) (ts:List Tk) (env:List Int) (w:World) (hv:ToksAt w v ts) (hl:ts.length≤1000) (hE:NumsAt w ve env) (hel:env.length≤1000) (hef:∀ x ∈ env,F64 x) (hn:∀ t ∈ ts,t.2.1≤9223372036854775807) :
    Calls Tryz.prog 158 #[v,ve] w fun e w'=>e=.returned (.tuple #[.agg #[.int .i64 (ans ⟨false,env,0⟩ ts).kind,.int .i64 (ans ⟨false,env,0⟩ ts).num],.int .i64 (ans ⟨false,env,0⟩ ts).code])∧Below w.heap.size w w':=by
  have HBA:=Lib.hid ((Below.refl w.heap.size w).alloc (Nat.le_refl _) (.cells #[.int .i64 0,.int .i64 0] 172))
  have HM:=Lib.hid (rmay_any v ts _ (hv.below HBA.out) hl)
  cases hm:mayP ts with
  | true =>
    have HMP:=Lib.hid hm
    have HV:=Lib.hid hv
    obtain ⟨A,cap,rfl,hc,hel2⟩:=hv
    have HT:=Lib.hid (fun W z (hb:Below w.heap.size w W) hz=>(end_top ⟨false,env,0⟩ ts A cap ve z W hm hel (HV.out.below hb) (hE.below hb) hn hef hz).1)
    have hpos:=(end_top ⟨false,env,0⟩ ts A cap ve _ w hm hel HV.out hE hn hef rfl).2
    generalize (ans ⟨false,env,0⟩ ts)=a at *
    obtain ⟨eA,ecap,rfl,hec,hei⟩:=hE
    clear hel2 hm hn hei
    go_enter Tryz.func158,Tryz.ntmps158
    go_wp2_with fail
    refine HM.out.mono ?_
    rintro e w0 ⟨rfl,hb0⟩
    rw [HMP.out]
    have HB0:=Lib.hid (HBA.out.trans (hb0.mono HBA.out.size))
    have HR0:=Lib.hid ((Blk.new w 172 #[.int .i64 0,.int .i64 0]).below hb0 (by simp))
    clear hb0
    go_wp2_with fail
    refine (HT.out _ _ HB0.out (by omega)).mono ?_
    rintro e w1 ⟨f,rfl,hb1⟩
    rw [valOf_parts]
    have HB1:=Lib.hid (HB0.out.trans (hb1.mono HB0.out.size))
    have HR1:=Lib.hid (HR0.out.below hb1 HR0.out.lt)
    have hw1:w.heap.size < w1.heap.size:=HR1.out.lt
    have HBN:=Lib.hid (HB1.out.alloc HB1.out.size (.cells #[.int .i64 a.kind,.int .i64 a.num,.int .i64 a.code] 210))
    have HRN:=Lib.hid (HR1.out.alloc (.cells #[.int .i64 a.kind,.int .i64 a.num,.int .i64 a.code] 210))
    have HCN:=Lib.hid (Blk.new w1 210 #[.int .i64 a.kind,.int .i64 a.num,.int .i64 a.code])
    clear hb1
    go_wp2_with fail
    generalize hg1:w1.heap.size=g1 at *
    generalize w1.alloc (.cells #[.int .i64 a.kind,.int .i64 a.num,.int .i64 a.code] 210)=w2 at *
    obtain ⟨⟨r0,r1⟩,f0,f1⟩:=HRN.out.facts2
    obtain ⟨⟨n0,n1,n2⟩,_⟩:=HCN.out.facts3
    have hne:¬ g1=w.heap.size:=by omega
    have hne2:¬ w.heap.size=g1:=by omega
    go_region
    all_goals
      go_wp2_with fail
      refine bodyPost_ret (results_pair Tryz.results158 _ _ w.heap.size _ _ (by rfl) ((HRN.out.drewN 1).set2 _ _)) rfl ⟨rfl,((below_drewN HBN.out 1).setCell (by simp) _).setCell (by simp) _⟩
  | false =>
    have HMP:=Lib.hid hm
    have HA:=Lib.hid (ans_not ⟨false,env,0⟩ hm)
    obtain ⟨A,cap,rfl,hc,hel2⟩:=hv
    clear hel2 hm
    go_enter Tryz.func158,Tryz.ntmps158
    go_wp2_with fail
    refine HM.out.mono ?_
    rintro e w0 ⟨rfl,hb0⟩
    rw [HMP.out]
    have HB0:=Lib.hid (HBA.out.trans (hb0.mono HBA.out.size))
    have HR0:=Lib.hid ((Blk.new w 172 #[.int .i64 0,.int .i64 0]).below hb0 (by simp))
    obtain ⟨⟨r0,r1⟩,f0,f1⟩:=HR0.out.facts2
    clear hb0
    go_wp2_with fail
    refine bodyPost_ret (results_pair Tryz.results158 _ _ w.heap.size _ _ (by rfl) (HR0.out.set2 _ _)) rfl ⟨?_,(HB0.out.setCell (by simp) _).setCell (by simp) _⟩
    rw [HA.out]
    rfl
end Go.Proofs.YtfgkcjmeiabdjaaGreatDoor
/- The contract of expr.Of: a text's value, or what is amiss. -/
namespace Go.Proofs.YtfgkcjmeiabdjaaGreatDoor
open Go.ChangeShapes Go.WideShapes Go.ChangeAt Go.RowKit
set_option linter.unusedVariables false

def SmallT (t:Tk):Prop:=t.2.1≤9223372036854775807
theorem u8_lt (c:UInt8):c.toNat < 256:=c.toNat_lt
theorem tokAt_small {l:List UInt8} {k e:Nat} {t:Tk} (h:tokAt l k=some (t,e)):SmallT t:=by
  unfold tokAt fixTok at h
  unfold SmallT
  split at h
  · split at h
    · simp only [Option.some.injEq,Prod.mk.injEq] at h; rw [← h.1]; simp only; omega
    · cases h
  · split at h
    · split at h
      · simp only [Option.some.injEq,Prod.mk.injEq] at h; rw [← h.1]; have:=u8_lt (l.getD k 0); simp only; omega
      · rw [Option.map_eq_some_iff] at h
        obtain ⟨j,_,h⟩:=h
        simp only [Prod.mk.injEq] at h; rw [← h.1]; simp only; omega
    · split at h
      · rw [Option.map_eq_some_iff] at h
        obtain ⟨j,_,h⟩:=h
        simp only [Prod.mk.injEq] at h; rw [← h.1]; simp only; omega
      · rw [Option.map_eq_some_iff] at h
        obtain ⟨j,_,h⟩:=h
        simp only [Prod.mk.injEq] at h; rw [← h.1]; simp only; omega
theorem scanF_small (l:List UInt8):∀ (n k:Nat) (acc:List Tk),(∀ t ∈ acc,SmallT t)→∀ t ∈ (scanF n l k acc).1,SmallT t
  | 0,k,acc,h=>by rw [scanF]; exact h
  | n+1,k,acc,h=>by
    rw [scanF]
    by_cases hk:k < l.length
    · rw [if_pos hk]
      by_cases hs:isSp (l.getD k 0)=true
      · rw [if_pos hs]; exact scanF_small l n (k+1) acc h
      · rw [if_neg hs]
        cases ht:tokAt l k with
        | none=>intro t ht; cases ht
        | some x =>
          refine scanF_small l n x.2 (acc ++ [x.1]) (fun t h1=>?_)
          rcases List.mem_append.1 h1 with h2 | h2
          · exact h t h2
          · obtain rfl:=List.mem_singleton.1 h2
            exact tokAt_small ht
    · rw [if_neg hk]; exact h
theorem small_snoc {o:List Tk} {t:Tk} (h:∀ x ∈ o,SmallT x) (ht:SmallT t):∀ x ∈ o ++ [t],SmallT x:=by
  intro x hx
  rcases List.mem_append.1 hx with h2 | h2
  · exact h x h2
  · obtain rfl:=List.mem_singleton.1 h2; exact ht
theorem small_0 (k:Int):SmallT (k,0,0):=by unfold SmallT; simp only; omega
theorem rd_small (ts:List Tk) (hts:∀ t ∈ ts,SmallT t):∀ (n lv k:Nat) (out:List Tk) (k':Nat) (o:List Tk),rd ts n lv k out=some (.ok k' o)→(∀ t ∈ out,SmallT t)→∀ t ∈ o,SmallT t
  | 0,_,_,_,_,_,h,_=>by rw [rd] at h; cases h
  | n+1,lv,k,out,kk,oo,h,ho=>by
    have ih:=rd_small ts hts n
    have hnum:∀ k,SmallT (knd ts k,num ts k,0):=fun k=>by
      unfold SmallT num
      simp only
      cases hg:ts[k]? with
      | none=>simp
      | some t=>exact hts t (List.mem_of_getElem? hg)
    rw [rd] at h
    by_cases h6:lv=6
    · rw [if_pos h6] at h
      by_cases c1:knd ts k=4
      · rw [if_pos c1] at h
        rcases thenR_some h with ⟨k',h1,h2⟩ | ⟨k',o,h1,h2⟩
        · cases h2
        · injection h2 with h2; injection h2 with h3 h4; subst h4; exact small_snoc (ih _ _ _ _ _ h1 ho) (small_0 19)
      · rw [if_neg c1] at h
        by_cases c2:isOpd (knd ts k)=true
        · rw [if_pos c2] at h
          injection h with h; injection h with h3 h4; subst h4; exact small_snoc ho (hnum k)
        · rw [if_neg c2] at h
          by_cases c3:knd ts k=17
          · rw [if_pos c3] at h
            rcases thenR_some h with ⟨k',h1,h2⟩ | ⟨k',o,h1,h2⟩
            · cases h2
            · by_cases c4:knd ts k'=18
              · rw [if_pos c4] at h2; injection h2 with h2; injection h2 with h3 h4; subst h4; exact ih _ _ _ _ _ h1 ho
              · rw [if_neg c4] at h2; injection h2 with h2; cases h2
          · rw [if_neg c3] at h; injection h with h; cases h
    · rw [if_neg h6] at h
      by_cases h3:lv=3
      · rw [if_pos h3] at h
        by_cases c1:knd ts k=14
        · rw [if_pos c1] at h
          rcases thenR_some h with ⟨k',h1,h2⟩ | ⟨k',o,h1,h2⟩
          · cases h2
          · injection h2 with h2; injection h2 with h3 h4; subst h4; exact small_snoc (ih _ _ _ _ _ h1 ho) (small_0 14)
        · rw [if_neg c1] at h
          rcases thenR_some h with ⟨k',h1,h2⟩ | ⟨k',o,h1,h2⟩
          · cases h2
          · by_cases c4:lvl (knd ts k')=3
            · rw [if_pos c4] at h2
              rcases thenR_some h2 with ⟨k'',h5,h6⟩ | ⟨k'',o',h5,h6⟩
              · cases h6
              · injection h6 with h6; injection h6 with h7 h8; subst h8; exact small_snoc (ih _ _ _ _ _ h5 (ih _ _ _ _ _ h1 ho)) (small_0 _)
            · rw [if_neg c4] at h2; injection h2 with h2; injection h2 with h7 h8; subst h8; exact ih _ _ _ _ _ h1 ho
      · rw [if_neg h3] at h
        by_cases hl:lv < 6
        · rw [if_pos hl] at h
          rcases thenR_some h with ⟨k',h1,h2⟩ | ⟨k',o,h1,h2⟩
          · cases h2
          · exact ih _ _ _ _ _ h2 (ih _ _ _ _ _ h1 ho)
        · rw [if_neg hl] at h
          by_cases hc:lvl (knd ts k)=lv - 10∧k < ts.length
          · rw [if_pos hc] at h
            rcases thenR_some h with ⟨k',h1,h2⟩ | ⟨k',o,h1,h2⟩
            · cases h2
            · exact ih _ _ _ _ _ h2 (small_snoc (ih _ _ _ _ _ h1 ho) (small_0 _))
          · rw [if_neg hc] at h; injection h with h; injection h with h7 h8; subst h8; exact ho
theorem parse_toks {s:List UInt8} {o:List Tk} (h:parseAns s=.toks o):o.length≤100∧(∀ t ∈ o,t.2.1≤9223372036854775807)∧s.length≤200∧(scan s 0 []).2=-1∧readAll (scan s 0 []).1=some (.ok (scan s 0 []).1.length o):=by
  unfold parseAns at h
  split at h
  · rename_i hl
    unfold ansIn at h
    split at h
    · rename_i hm
      obtain ⟨R,hR⟩:=readAll_some (scan s 0 []).1
      rw [hR] at h
      cases R with
      | bad k=>cases h
      | ok k o' =>
        unfold ansOf at h
        simp only at h
        split at h
        · rename_i hk
          split at h
          · rename_i h100
            injection h with h
            subst h
            subst hk
            exact ⟨h100,rd_small _ (fun t ht=>scanF_small s _ 0 [] (fun t ht=>by cases ht) t ht) _ _ _ _ _ _ hR (fun t ht=>by cases ht),hl,hm,hR⟩
          · cases h
        · cases h
    · cases h
  · cases h
def OPost (a:Ans) (env:List Int) (w:World) (e:Ending) (w':World):Prop :=
  match a with
    | .toks o=>VPost (ans ⟨false,env,0⟩ o) w e w'
    | .form k=>Below w.heap.size w w'∧∃ g,e=.returned (.tuple #[.agg #[.int .i64 0,.int .i64 0],.iface 108 (.pointer (some ⟨g,0,none⟩))])∧w.heap.size≤g∧Blk w' g 110 #[.int .i64 k,.int .i64 2]
    | .large=>Below w.heap.size w w'∧e=.returned (.tuple #[.agg #[.int .i64 0,.int .i64 0],.iface 106 (.int .i64 3)])
def errOf:Vl→Value
  | .ok _ _=>.nilIface
  | .bad c=>.iface 106 (.int .i64 c)
theorem VPost.val {a:Vl} {w w':World} {e:Ending} (h:VPost a w e w'):Below w.heap.size w w'∧∃ er,e=.returned (.tuple #[.agg #[.int .i64 a.kind,.int .i64 a.num],er])∧er=errOf a:=by
  obtain ⟨hb,h⟩:=h
  cases a with
  | ok k n=>exact ⟨hb,_,h,rfl⟩
  | bad c=>exact ⟨hb,_,h,rfl⟩
theorem VPost.of_val {a:Vl} {w w':World} {e:Ending} {er:Value} (hb:Below w.heap.size w w') (her:er=errOf a) (he:e=.returned (.tuple #[.agg #[.int .i64 a.kind,.int .i64 a.num],er])):VPost a w e w':=by
  cases a with
  | ok k n=>subst her; exact ⟨hb,he⟩
  | bad c=>subst her; exact ⟨hb,he⟩
set_option maxHeartbeats 2000000 in
set_option maxRecDepth 100000 in
theorem of_any (s:ByteArray) (ve:Value) (env:List Int) (w:World) (hL:Laid w) (hs:s.size≤1000000) (hE:NumsAt w ve env) (hel:env.length≤1000) (hef:∀ x ∈ env,F64 x):Calls Tryz.prog 143 #[.string s,ve] w (OPost (parseAns s.data.toList) env w):=by
  have HBA:=Lib.hid ((Below.refl w.heap.size w).alloc (Nat.le_refl _) (.cells #[.int .i64 0,.int .i64 0] 172))
  have HP:=Lib.hid (parse_any s _ (hL.after HBA.out) hs)
  have HE:=Lib.hid hE
  have HEF:=Lib.hid hef
  have HPT:=Lib.hid (fun o=>parse_toks (s:=s.data.toList) (o:=o))
  have hnn:=neq_nil_nil
  have hnc:=fun p W=>neq_code_any p W
  have hns:=fun p W=>neq_spot_any p W
  have HR:=Lib.hid (Blk.new w 172 #[.int .i64 0,.int .i64 0])
  generalize parseAns s.data.toList=a at *
  clear hL hE hef
  go_enter Tryz.func143,Tryz.ntmps143
  go_wp2_with fail
  refine HP.out.mono ?_
  rintro e w1 ⟨hb1,hA⟩
  have HB1:=Lib.hid (HBA.out.trans (hb1.mono HBA.out.size))
  have HR1:=Lib.hid (HR.out.below hb1 HR.out.lt)
  have hsz:(w.alloc (.cells #[.int .i64 0,.int .i64 0] 172)).heap.size=w.heap.size+1:=by simp
  clear hb1
  cases a with
  | toks o =>
    obtain ⟨v,rfl,hown⟩:=hA
    obtain ⟨ho100,hsm,_⟩:=HPT.out o rfl
    have HV:=Lib.hid (eval_any v ve o env w1 (ToksAt.of_own hown) (by omega) (HE.out.below HB1.out) hel HEF.out hsm)
    clear hown hsm ho100
    go_wp2_with fail
    refine HV.out.mono ?_
    intro e w2 hp
    obtain ⟨hb2,er,rfl,her⟩:=hp.val
    have HB2:=Lib.hid (HB1.out.trans (hb2.mono HB1.out.size))
    have HR2:=Lib.hid (HR1.out.below hb2 HR1.out.lt)
    have HER:=Lib.hid her
    obtain ⟨⟨r0,r1⟩,f0,f1⟩:=HR2.out.facts2
    clear hb2 hp her
    go_wp2_with fail
    refine bodyPost_ret (results_pair Tryz.results143 _ _ w.heap.size _ _ (by rfl) (HR2.out.set2 _ _)) rfl (VPost.of_val ((HB2.out.setCell (by simp) _).setCell (by simp) _) HER.out rfl)
  | form k =>
    obtain ⟨g,rfl,hg,hB⟩:=hA
    have HG:=Lib.hid hg
    have HBl:=Lib.hid hB
    obtain ⟨⟨r0,r1⟩,f0,f1⟩:=HR1.out.facts2
    clear hg hB
    go_wp2_with fail
    have hne:w.heap.size < g:=by have:=HG.out; omega
    refine bodyPost_ret (results_pair Tryz.results143 _ _ w.heap.size _ _ (by rfl) (HR1.out.set2 _ _)) rfl ⟨(HB1.out.setCell (by simp) _).setCell (by simp) _,g,rfl,by omega,?_⟩
    exact (Below.heap_setCell _ ⟨w.heap.size,1,none⟩ _ g (by simp; omega)).trans ((Below.heap_setCell _ ⟨w.heap.size,0,none⟩ _ g (by simp; omega)).trans HBl.out)
  | large =>
    have hA':e=.returned (.tuple #[.slice none 0 0,.iface 106 (.int .i64 3)]):=hA
    subst hA'
    obtain ⟨⟨r0,r1⟩,f0,f1⟩:=HR1.out.facts2
    clear hA
    go_wp2_with fail
    refine bodyPost_ret (results_pair Tryz.results143 _ _ w.heap.size _ _ (by rfl) (HR1.out.set2 _ _)) rfl ⟨(HB1.out.setCell (by simp) _).setCell (by simp) _,rfl⟩
end Go.Proofs.YtfgkcjmeiabdjaaGreatDoor
/- The contract of the document's Of (spinetref04.Of): a text's value, a mishap's number and its place. -/
namespace Go.Proofs.YtfgkcjmeiabdjaaGreatDoor
open Go.ChangeShapes Go.WideShapes Go.ChangeAt Go.RowKit
set_option linter.unusedVariables false

theorem results_trip {fn:Func} {r s t:Tmp} (hr:fn.results=#[.cell r 172,.tmp s,.tmp t]) (tmps:Array Value) (w:World) (g:Nat) (a b:Value)
    (hp:tmps.getD r undef=.pointer (some ⟨g,0,none⟩)) (hB:Blk w g 172 #[a,b]) :
    (results fn tmps).run Tryz.prog w=.ok (.tuple #[.agg #[a,b],tmps.getD s undef,tmps.getD t undef]) w:=by
  have c0:=hB.cell 0
  have c1:=hB.cell 1
  simp at c0 c1 hp
  simp [results,hr,hp,go_sem,c0,c1]
def ROPost (a:Ans) (env:List Int) (w:World) (e:Ending) (w':World):Prop :=
  Below w.heap.size w w'∧match a with
    | .toks o=>e=.returned (.tuple #[.agg #[.int .i64 (ans ⟨false,env,0⟩ o).kind,.int .i64 (ans ⟨false,env,0⟩ o).num],.int .i64 (ans ⟨false,env,0⟩ o).code,.int .i64 (-1)])
    | .form k=>e=.returned (.tuple #[.agg #[.int .i64 0,.int .i64 0],.int .i64 2,.int .i64 k])
    | .large=>e=.returned (.tuple #[.agg #[.int .i64 0,.int .i64 0],.int .i64 3,.int .i64 (-1)])
theorem ro_toks {o:List Tk} {env:List Int} {u:Vl} {w w':World} {e:Ending} (hu:ans ⟨false,env,0⟩ o=u) (hb:Below w.heap.size w w') (he:e=.returned (.tuple #[.agg #[.int .i64 u.kind,.int .i64 u.num],.int .i64 u.code,.int .i64 (-1)])):ROPost (.toks o) env w e w':=by
  subst hu
  exact ⟨hb,he⟩
set_option maxHeartbeats 2000000 in
set_option maxRecDepth 100000 in
theorem rof_any (s:ByteArray) (ve:Value) (env:List Int) (w:World) (hs:s.size≤1000000) (hE:NumsAt w ve env) (hel:env.length≤1000) (hef:∀ x ∈ env,F64 x):Calls Tryz.prog 142 #[.string s,ve] w (ROPost (parseAns s.data.toList) env w):=by
  have HBA:=Lib.hid ((Below.refl w.heap.size w).alloc (Nat.le_refl _) (.cells #[.int .i64 0,.int .i64 0] 172))
  have HP:=Lib.hid (fun W=>rparse_any s W hs)
  have HE:=Lib.hid hE
  have HEF:=Lib.hid hef
  have HPT:=Lib.hid (fun o=>parse_toks (s:=s.data.toList) (o:=o))
  have HR:=Lib.hid (Blk.new w 172 #[.int .i64 0,.int .i64 0])
  generalize parseAns s.data.toList=a at *
  clear hE hef
  go_enter Tryz.func142,Tryz.ntmps142
  go_wp2_with fail
  refine (HP.out _).mono ?_
  rintro e w1 ⟨hb1,hA⟩
  have HB1:=Lib.hid (HBA.out.trans (hb1.mono HBA.out.size))
  have HR1:=Lib.hid (HR.out.below hb1 HR.out.lt)
  clear hb1
  cases a with
  | toks o =>
    obtain ⟨v,rfl,hown⟩:=hA
    obtain ⟨ho100,hsm,_⟩:=HPT.out o rfl
    have HV:=Lib.hid (reval_any v ve o env w1 (ToksAt.of_own hown) (by omega) (HE.out.below HB1.out) hel HEF.out hsm)
    generalize hu:ans ⟨false,env,0⟩ o=u at HV
    have HU:=Lib.hid hu
    clear hu
    clear hown hsm ho100
    go_wp2_with fail
    refine HV.out.mono ?_
    rintro e w2 ⟨rfl,hb2⟩
    have HB2:=Lib.hid (HB1.out.trans (hb2.mono HB1.out.size))
    have HR2:=Lib.hid (HR1.out.below hb2 HR1.out.lt)
    have HRA:=Lib.hid (HR2.out.alloc (.cells #[.int .i64 u.kind,.int .i64 u.num] 172))
    have HBN:=Lib.hid (HB2.out.alloc HB2.out.size (.cells #[.int .i64 u.kind,.int .i64 u.num] 172))
    have HCN:=Lib.hid (Blk.new w2 172 #[.int .i64 u.kind,.int .i64 u.num])
    have hw2:w.heap.size < w2.heap.size:=HR2.out.lt
    obtain ⟨⟨r0,r1⟩,f0,f1⟩:=HR2.out.facts2
    have hne:¬ w.heap.size=w2.heap.size:=by omega
    obtain ⟨⟨q0,q1⟩,g0,g1⟩:=HRA.out.facts2
    clear hb2
    go_wp2_with fail
    refine bodyPost_ret (results_trip Tryz.results142 _ _ w.heap.size _ _ (by rfl) ((HR2.out.set2 _ _).alloc _)) rfl (ro_toks HU.out (((HB2.out.setCell (by simp) _).setCell (by simp) _).alloc (by simp; omega) _) rfl)
  | form k =>
    have hA':e=.returned (.tuple #[.slice none 0 0,.int .i64 2,.int .i64 k]):=hA
    subst hA'
    obtain ⟨⟨r0,r1⟩,f0,f1⟩:=HR1.out.facts2
    clear hA
    go_wp2_with fail
    refine bodyPost_ret (results_trip Tryz.results142 _ _ w.heap.size _ _ (by rfl) (HR1.out.set2 _ _)) rfl ⟨(HB1.out.setCell (by simp) _).setCell (by simp) _,rfl⟩
  | large =>
    have hA':e=.returned (.tuple #[.slice none 0 0,.int .i64 3,.int .i64 (-1)]):=hA
    subst hA'
    obtain ⟨⟨r0,r1⟩,f0,f1⟩:=HR1.out.facts2
    clear hA
    go_wp2_with fail
    refine bodyPost_ret (results_trip Tryz.results142 _ _ w.heap.size _ _ (by rfl) (HR1.out.set2 _ _)) rfl ⟨(HB1.out.setCell (by simp) _).setCell (by simp) _,rfl⟩
end Go.Proofs.YtfgkcjmeiabdjaaGreatDoor
