/- The contracts of chart's smallest functions: isFrom, isHistory, isState, above. -/
import Derived.Test.YtmhkpjcdkjnlnaaGreatDoorFWCgen
namespace Go.Proofs.YtmhkpjcdkjnlnaaGreatDoor
open Go.ChangeShapes Go.WideShapes Go.ChangeAt Go.RowKit
set_option linter.unusedVariables false

theorem isFrom_any (n a b:Int) (w:World):Calls Tryz.prog 93 #[.int .i64 n,.int .i64 a,.int .i64 b] w fun e w'=>e=.returned (.bool (fromB n a b))∧w=w':=by
 by_cases h1:a≤n
 · have h2:decide (a≤n)=true:=by simpa using h1
   go_enter Tryz.func93,Tryz.ntmps93
   go_wp2
   go_ret
   exact ⟨ret_bool (by unfold fromB; rw [h2]; rfl),rfl⟩
 · have h2:decide (a≤n)=false:=by simpa using h1
   go_enter Tryz.func93,Tryz.ntmps93
   go_wp2
   go_ret
   exact ⟨ret_bool (by unfold fromB; rw [h2]; rfl),rfl⟩
theorem isHist_any (k:Int) (w:World):Calls Tryz.prog 92 #[.int .i64 k] w fun e w'=>e=.returned (.bool (histB k))∧w=w':=by
 by_cases h:k=5
 · subst h
   go_enter Tryz.func92,Tryz.ntmps92
   go_wp2
   go_ret
   exact ⟨rfl,rfl⟩
 · have h2:(k == 5)=false:=by simpa using h
   go_enter Tryz.func92,Tryz.ntmps92
   go_wp2
   go_ret
   exact ⟨ret_bool (by unfold histB; simp [h]; rfl),rfl⟩
theorem isState_any (vr s:Int) (vs vt:Value) (C:Ch) (w:World) (hC:ChHas w vs vt C) (hl:Short C.sts.length) :
 Calls Tryz.prog 139 #[.agg #[.int .i64 vr,vs,vt],.int .i64 s] w fun e w'=>e=.returned (.bool (isSt C.sts s))∧Below w.heap.size w w':=by
 unfold Short at hl
 obtain ⟨⟨A,cap,rfl,hcap,_⟩,_⟩:=hC
 have hb:Below w.heap.size w (w.alloc (chBox vr (.slice A C.sts.length cap) vt)):=(Below.refl _ _).alloc (Nat.le_refl _) _
 have HB:=Lib.hid hb
 clear hb
 by_cases h:0≤s
 · have h2:decide (0≤s)=true:=by simpa using h
   go_enter Tryz.func139,Tryz.ntmps139
   go_wp2
   go_ret
   exact ⟨ret_bool (by unfold isSt; rw [h2]; rfl),HB.out⟩
 · have h2:decide (0≤s)=false:=by simpa using h
   go_enter Tryz.func139,Tryz.ntmps139
   go_wp2
   go_ret
   exact ⟨ret_bool (by unfold isSt; rw [h2]; rfl),HB.out⟩
theorem box_later {w w1:World} {vr:Int} {vs vt:Value} (hb:Below (w.alloc (chBox vr vs vt)).heap.size (w.alloc (chBox vr vs vt)) w1) :
 w1.cell? ⟨w.heap.size,0,none⟩=some (.int .i64 vr)∧w1.cell? ⟨w.heap.size,1,none⟩=some vs∧w1.cell? ⟨w.heap.size,2,none⟩=some vt :=
 ((Blk.new w 25 #[.int .i64 vr,vs,vt]).below hb (by simp)).facts3.1
set_option maxHeartbeats 1000000 in
theorem above_any (vr s:Int) (vs vt:Value) (C:Ch) (w:World) (hC:ChHas w vs vt C) (hl:Short C.sts.length) :
 Calls Tryz.prog 176 #[.agg #[.int .i64 vr,vs,vt],.int .i64 s] w fun e w'=>e=.returned (.int .i64 (cUp C.sts s))∧Below w.heap.size w w':=by
 have HB:=Lib.hid (below_box w (chBox vr vs vt))
 have HS:=Lib.hid (isState_any vr s vs vt C _ (hC.below HB.out) hl)
 have HC:=Lib.hid hC
 unfold Short at hl
 cases h:isSt C.sts s with
 | false =>
  have HI:=Lib.hid h
  clear h hC
  go_enter Tryz.func176,Tryz.ntmps176
  go_wp2_with fail
  refine HS.out.mono ?_
  rintro e w1 ⟨rfl,hb1⟩
  have HB1:=Lib.hid (HB.out.trans (hb1.mono HB.out.size))
  rw [HI.out]
  clear hb1
  go_wp2
  go_ret
  exact ⟨ret_int (by unfold cUp; rw [if_neg (by rw [HI.out]; simp)]),HB1.out⟩
 | true =>
  have HI:=Lib.hid h
  obtain ⟨k,rfl,hk⟩:=isSt_nat h
  obtain ⟨b,o,cap,vi,ve,vx,rfl,hcap,hlt,hst,_⟩:=hC.st hk
  have HST:=Lib.hid hst
  clear h hC hst
  go_enter Tryz.func176,Tryz.ntmps176
  go_wp2_with fail
  refine HS.out.mono ?_
  rintro e w1 ⟨rfl,hb1⟩
  have HB1:=Lib.hid (HB.out.trans (hb1.mono HB.out.size))
  obtain ⟨x0,x1,x2⟩:=box_later hb1
  obtain ⟨c0,c1,c2,c3,c4⟩:=HST.out.below HB1.out hlt
  rw [HI.out]
  clear hb1
  cases hf:fromB (stAt C.sts (k:Int)).par 0 ((k:Int) - 1) with
  | true =>
   have HF:=Lib.hid hf
   clear hf
   go_wp2_with (go_at_call 93; refine (isFrom_any _ _ _ _).mono ?_; rintro e w' ⟨rfl,rfl⟩; rw [HF.out])
   go_ret
   exact ⟨ret_int (by unfold cUp; rw [if_pos ⟨HI.out,HF.out⟩]),HB1.out⟩
  | false =>
   have HF:=Lib.hid hf
   clear hf
   go_wp2_with (go_at_call 93; refine (isFrom_any _ _ _ _).mono ?_; rintro e w' ⟨rfl,rfl⟩; rw [HF.out])
   go_ret
   exact ⟨ret_int (by unfold cUp; rw [if_neg (by rw [HF.out]; simp)]),HB1.out⟩

theorem below_boxed {w w1:World} {o:Obj} (hb:Below (w.alloc o).heap.size (w.alloc o) w1):Below w.heap.size w w1:=(below_box w o).trans (hb.mono (by simp))
set_option maxHeartbeats 1000000 in
theorem isIn_any (vr a b:Int) (vs vt:Value) (C:Ch) (w:World) (hC:ChHas w vs vt C) (hl:Short C.sts.length) :
 Calls Tryz.prog 138 #[.agg #[.int .i64 vr,vs,vt],.int .i64 a,.int .i64 b] w fun e w'=>e=.returned (.bool (cIn C.sts a b))∧Below w.heap.size w w':=by
 have HA:=Lib.hid (fun (W:World) (s:Int) (h:Below (w.alloc (chBox vr vs vt)).heap.size (w.alloc (chBox vr vs vt)) W)=>above_any vr s vs vt C W (hC.below (below_boxed h)) hl)
 have h0:cIn C.sts a b=inF C.sts (a.toNat+1) (cUp C.sts a) b:=rfl
 have hge:=cUp_ge C.sts a
 have hle:=cUp_le C.sts a
 have hpos:(cUp C.sts a+1).toNat≤a.toNat+1:=by rcases hle with h | h <;> omega
 have HUP:=Lib.hid (fun q=>cUp_step C.sts q)
 generalize cIn C.sts a b=R at *
 have H0:=Lib.hid h0
 clear h0 hC hle
 go_enter Tryz.func138,Tryz.ntmps138
 go_wp2_with fail
 refine (HA.out _ a (Below.refl _ _)).mono ?_
 rintro e w1 ⟨rfl,hb1⟩
 have HB1:=Lib.hid hb1
 generalize cUp C.sts a=u at *
 clear hb1
 go_wp2_with fail
 go_loopw [7] (fun p wr=>∃ (n:Nat) (q:Int),(q+1).toNat≤n∧p=.int .i64 q∧Hid (R=inF C.sts n q b)∧Below (w.alloc (chBox vr vs vt)).heap.size (w.alloc (chBox vr vs vt)) wr) (fun p _=>(intOf p+1).toNat)
 case atStart=>exact ⟨a.toNat+1,u,hpos,rfl,H0,HB1.out⟩
 case round =>
  obtain ⟨n,q,hn,rfl,HR,hb⟩:=hrel
  obtain ⟨wo,rfl⟩:∃ wo:World,wo=wr:=⟨_,rfl⟩
  obtain ⟨x0,x1,x2⟩:=box_later hb
  have HBW:=Lib.hid hb
  clear hb
  by_cases hq:q < 0
  · have hR:=HR.out
    have:inF C.sts n q b=false:=by
     cases n with
     | zero=>rfl
     | succ n=>rw [inF,if_pos hq]
    rw [this] at hR
    have HRR:=Lib.hid hR
    clear hR this
    go_wp2_with fail
    go_ret
    exact ⟨ret_bool HRR.out.symm,below_boxed HBW.out⟩
  · obtain ⟨m,rfl⟩:∃ m,n=m+1:=⟨n - 1,by omega⟩
    have hR:=HR.out
    rw [inF,if_neg hq] at hR
    have hq0:0≤q:=by omega
    by_cases hqb:q=b
    · rw [if_pos hqb] at hR
      have HRR:=Lib.hid hR
      have hqb2:(q == b)=true:=by simpa using hqb
      have HQB:=Lib.hid hqb
      clear hR hqb
      go_wp2_with fail
      go_ret
      exact ⟨ret_bool HRR.out.symm,below_boxed HBW.out⟩
    · rw [if_neg hqb] at hR
      have HRR:=Lib.hid hR
      have hqb2:(q == b)=false:=by simpa using hqb
      have hst:=HUP.out q hq0
      clear hR hqb
      go_wp2_with fail
      refine (HA.out _ q HBW.out).mono ?_
      rintro e w2 ⟨rfl,hb2⟩
      have HB2:=Lib.hid (HBW.out.trans (hb2.mono HBW.out.size))
      generalize cUp C.sts q=u2 at *
      clear hb2
      go_wp2
      go_roundw
      case rel=>exact ⟨m,u2,by omega,rfl,HRR,HB2.out⟩
      case measure=>simp [intOf]; omega
theorem notFirst_any (vr s:Int) (vs vt:Value) (C:Ch) (w:World) (hC:ChHas w vs vt C) (hl:Short C.sts.length) :
 Calls Tryz.prog 140 #[.agg #[.int .i64 vr,vs,vt],.int .i64 s] w fun e w'=>e=.returned (.bool (notFirst C.sts s))∧Below w.heap.size w w':=by
 have HB:=Lib.hid (below_box w (chBox vr vs vt))
 have HS:=Lib.hid (isState_any vr s vs vt C _ (hC.below HB.out) hl)
 clear hC
 by_cases h:s=0
 · subst h
   go_enter Tryz.func140,Tryz.ntmps140
   go_wp2
   go_ret
   exact ⟨ret_bool (by simp [notFirst]),HB.out⟩
 · have h2:(s != 0)=true:=by simpa using h
   have HN:=Lib.hid h
   clear h
   go_enter Tryz.func140,Tryz.ntmps140
   go_wp2_with fail
   refine HS.out.mono ?_
   rintro e w1 ⟨rfl,hb1⟩
   have HB1:=Lib.hid (below_boxed hb1)
   clear hb1
   go_wp2
   go_ret
   exact ⟨ret_bool (by simp [notFirst,HN.out]),HB1.out⟩
set_option maxHeartbeats 1000000 in
theorem counted_any (vr s:Int) (vs vt:Value) (C:Ch) (w:World) (hC:ChHas w vs vt C) (hl:Short C.sts.length) (hs:isSt C.sts s=true) :
 Calls Tryz.prog 142 #[.agg #[.int .i64 vr,vs,vt],.int .i64 s] w fun e w'=>e=.returned (.int .i64 (cCnt C.sts s))∧Below w.heap.size w w':=by
 have HB:=Lib.hid (below_box w (chBox vr vs vt))
 unfold Short at hl
 obtain ⟨k,rfl,hk⟩:=isSt_nat hs
 obtain ⟨b,o,cap,vi,ve,vx,rfl,hcap,hlt,hst,_⟩:=hC.st hk
 obtain ⟨c0,c1,c2,c3,c4⟩:=hst
 cases hf:histB (stAt C.sts (k:Int)).kind with
 | true =>
  have HF:=Lib.hid hf
  clear hf hC hs
  go_enter Tryz.func142,Tryz.ntmps142
  go_wp2_with (go_at_call 92; refine (isHist_any _ _).mono ?_; rintro e w' ⟨rfl,rfl⟩; rw [HF.out])
  go_ret
  exact ⟨ret_int (by unfold cCnt; rw [if_pos HF.out]),HB.out⟩
 | false =>
  have HF:=Lib.hid hf
  clear hf hC hs
  go_enter Tryz.func142,Tryz.ntmps142
  go_wp2_with (go_at_call 92; refine (isHist_any _ _).mono ?_; rintro e w' ⟨rfl,rfl⟩; rw [HF.out])
  go_ret
  exact ⟨ret_int (by unfold cCnt; rw [if_neg (by rw [HF.out]; simp)]),HB.out⟩

theorem apart_no {S:List St} {a b:Int} (h:a=b ∨ cIn S a b=true ∨ cIn S b a=true):apart S a b=false:=by unfold apart; rw [if_pos h]
theorem apart_up {S:List St} {a b:Int} (h1:¬ a=b) (h2:cIn S a b=false) (h3:cIn S b a=false):apart S a b=apF S (a.toNat+1) (cUp S a) b:=by
 unfold apart; rw [if_neg (by rw [h2,h3]; simp [h1])]
theorem isSt_in {S:List St} {b q:Int} (h:cIn S b q=true):isSt S q=true:=by
 obtain ⟨h1,h2,h3⟩:=cIn_range h
 unfold isSt at h3 ⊢
 simp only [Bool.and_eq_true,decide_eq_true_eq] at h3 ⊢
 omega
set_option maxHeartbeats 2000000 in
theorem apart_any (vr a b:Int) (vs vt:Value) (C:Ch) (w:World) (hC:ChHas w vs vt C) (hl:Short C.sts.length) :
 Calls Tryz.prog 141 #[.agg #[.int .i64 vr,vs,vt],.int .i64 a,.int .i64 b] w fun e w'=>e=.returned (.bool (apart C.sts a b))∧Below w.heap.size w w':=by
 have HB:=Lib.hid (below_box w (chBox vr vs vt))
 have HA:=Lib.hid (fun (W:World) (s:Int) (h:Below (w.alloc (chBox vr vs vt)).heap.size (w.alloc (chBox vr vs vt)) W)=>above_any vr s vs vt C W (hC.below (below_boxed h)) hl)
 have HI:=Lib.hid (fun (W:World) (s t:Int) (h:Below (w.alloc (chBox vr vs vt)).heap.size (w.alloc (chBox vr vs vt)) W)=>isIn_any vr s t vs vt C W (hC.below (below_boxed h)) hl)
 have HC:=Lib.hid hC
 unfold Short at hl
 clear hC
 by_cases hab:a=b
 · have HR:=Lib.hid (apart_no (S:=C.sts) (.inl hab))
   have hab2:(a == b)=true:=by simpa using hab
   clear hab
   go_enter Tryz.func141,Tryz.ntmps141
   go_wp2_with fail
   go_ret
   exact ⟨ret_bool HR.out.symm,HB.out⟩
 · have hab2:(a == b)=false:=by simpa using hab
   cases h1:cIn C.sts a b with
   | true =>
    have HR:=Lib.hid (apart_no (S:=C.sts) (.inr (.inl h1)))
    have H1:=Lib.hid h1
    clear hab h1
    go_enter Tryz.func141,Tryz.ntmps141
    go_wp2_with fail
    refine (HI.out _ a b (Below.refl _ _)).mono ?_
    rintro e w1 ⟨rfl,hb1⟩
    have HB1:=Lib.hid hb1
    rw [H1.out]
    clear hb1
    go_wp2_with fail
    go_ret
    exact ⟨ret_bool HR.out.symm,below_boxed HB1.out⟩
   | false =>
    cases h2:cIn C.sts b a with
    | true =>
     have HR:=Lib.hid (apart_no (S:=C.sts) (.inr (.inr h2)))
     have H1:=Lib.hid h1
     have H2:=Lib.hid h2
     clear hab h1 h2
     go_enter Tryz.func141,Tryz.ntmps141
     go_wp2_with fail
     refine (HI.out _ a b (Below.refl _ _)).mono ?_
     rintro e w1 ⟨rfl,hb1⟩
     have HB1:=Lib.hid hb1
     rw [H1.out]
     obtain ⟨x0,x1,x2⟩:=box_later hb1
     clear hb1
     go_wp2_with fail
     refine (HI.out _ b a HB1.out).mono ?_
     rintro e w2 ⟨rfl,hb2⟩
     have HB2:=Lib.hid (HB1.out.trans (hb2.mono HB1.out.size))
     rw [H2.out]
     clear hb2
     go_wp2_with fail
     go_ret
     exact ⟨ret_bool HR.out.symm,below_boxed HB2.out⟩
    | false =>
     have h0:=apart_up hab h1 h2
     have hpos:(cUp C.sts a+1).toNat≤a.toNat+1:=by rcases cUp_le C.sts a with h | h <;> omega
     have HUP:=Lib.hid (fun q=>cUp_step C.sts q)
     generalize apart C.sts a b=R at *
     have H0:=Lib.hid h0
     have H1:=Lib.hid h1
     have H2:=Lib.hid h2
     clear h0 h1 h2 hab
     go_enter Tryz.func141,Tryz.ntmps141
     go_wp2_with fail
     refine (HI.out _ a b (Below.refl _ _)).mono ?_
     rintro e w1 ⟨rfl,hb1⟩
     have HB1:=Lib.hid hb1
     rw [H1.out]
     obtain ⟨x0,x1,x2⟩:=box_later hb1
     clear hb1
     go_wp2_with fail
     refine (HI.out _ b a HB1.out).mono ?_
     rintro e w2 ⟨rfl,hb2⟩
     have hB2:=HB1.out.trans (hb2.mono HB1.out.size)
     rw [H2.out]
     clear hb2 x0 x1 x2
     obtain ⟨x0,x1,x2⟩:=box_later hB2
     have HB2:=Lib.hid hB2
     clear hB2
     go_wp2_with fail
     refine (HA.out _ a HB2.out).mono ?_
     rintro e w3 ⟨rfl,hb3⟩
     have HB3:=Lib.hid (HB2.out.trans (hb3.mono HB2.out.size))
     generalize cUp C.sts a=u at *
     clear hb3 x0 x1 x2
     go_wp2_with fail
     go_loopw [7] (fun p wr=>∃ (n:Nat) (q:Int),(q+1).toNat≤n∧p=.int .i64 q∧Hid (R=apF C.sts n q b)∧Below (w.alloc (chBox vr vs vt)).heap.size (w.alloc (chBox vr vs vt)) wr) (fun p _=>(intOf p+1).toNat)
     case atStart=>exact ⟨a.toNat+1,u,hpos,rfl,H0,HB3.out⟩
     case round =>
      obtain ⟨n,q,hn,rfl,HR,hb⟩:=hrel
      obtain ⟨wo,rfl⟩:∃ wo:World,wo=wr:=⟨_,rfl⟩
      obtain ⟨x0,x1,x2⟩:=box_later hb
      have HBW:=Lib.hid hb
      clear hb
      by_cases hq:q < 0
      · have hR:=HR.out
        have:apF C.sts n q b=false:=by
         cases n with
         | zero=>rfl
         | succ n=>rw [apF,if_pos hq]
        rw [this] at hR
        have HRR:=Lib.hid hR
        clear hR this
        go_wp2_with fail
        go_ret
        exact ⟨ret_bool HRR.out.symm,below_boxed HBW.out⟩
      · obtain ⟨m,rfl⟩:∃ m,n=m+1:=⟨n - 1,by omega⟩
        have hR:=HR.out
        rw [apF,if_neg hq] at hR
        have hq0:0≤q:=by omega
        cases hi:cIn C.sts b q with
        | true =>
         rw [if_pos hi] at hR
         obtain ⟨k,rfl,hk⟩:=isSt_nat (isSt_in hi)
         obtain ⟨B,o,cap,vi,ve,vx,rfl,hcap,hlt,hst,_⟩:=HC.out.st hk
         have HST:=Lib.hid hst
         have HRR:=Lib.hid hR
         have HII:=Lib.hid hi
         clear hR hi hst
         go_wp2_with fail
         refine (HI.out _ b _ HBW.out).mono ?_
         rintro e w4 ⟨rfl,hb4⟩
         have hB4:=HBW.out.trans (hb4.mono HBW.out.size)
         rw [HII.out]
         clear hb4 x0 x1 x2
         obtain ⟨x0,x1,x2⟩:=box_later hB4
         obtain ⟨c0,c1,c2,c3,c4⟩:=HST.out.below (below_boxed hB4) hlt
         have HB4:=Lib.hid hB4
         clear hB4
         go_wp2_with fail
         go_ret
         exact ⟨ret_bool HRR.out.symm,below_boxed HB4.out⟩
        | false =>
         rw [if_neg (by rw [hi]; simp)] at hR
         have HRR:=Lib.hid hR
         have HII:=Lib.hid hi
         have hst:=HUP.out q hq0
         clear hR hi
         go_wp2_with fail
         refine (HI.out _ b _ HBW.out).mono ?_
         rintro e w4 ⟨rfl,hb4⟩
         have hB4:=HBW.out.trans (hb4.mono HBW.out.size)
         rw [HII.out]
         clear hb4 x0 x1 x2
         obtain ⟨x0,x1,x2⟩:=box_later hB4
         have HB4:=Lib.hid hB4
         clear hB4
         go_wp2_with fail
         refine (HA.out _ q HB4.out).mono ?_
         rintro e w5 ⟨rfl,hb5⟩
         have HB5:=Lib.hid (HB4.out.trans (hb5.mono HB4.out.size))
         generalize cUp C.sts q=u2 at *
         clear hb5
         go_wp2
         go_roundw
         case rel=>exact ⟨m,u2,by omega,rfl,HRR,HB5.out⟩
         case measure=>simp [intOf]; omega

theorem kindMay_any (vr:Int) (s:Nat) (vs vt:Value) (C:Ch) (w:World) (hC:ChHas w vs vt C) (hl:Short C.sts.length) (hs:s < C.sts.length) :
 Calls Tryz.prog 94 #[.agg #[.int .i64 vr,vs,vt],.int .i64 (s:Int)] w fun e w'=>e=.returned (.bool (kindB C.sts s))∧Below w.heap.size w w':=by
 have HB:=Lib.hid (below_box w (chBox vr vs vt))
 unfold Short at hl
 obtain ⟨b,o,cap,vi,ve,vx,rfl,hcap,hlt,hst,_⟩:=hC.st hs
 obtain ⟨c0,c1,c2,c3,c4⟩:=hst
 clear hC
 by_cases h:s=0
 · have h2:((s:Int) == 0)=true:=by simpa using h
   have HN:=Lib.hid h
   clear h
   go_enter Tryz.func94,Tryz.ntmps94
   go_wp2_with fail
   go_ret
   exact ⟨ret_bool (by unfold kindB; rw [if_pos (by have:=HN.out; omega)]; rfl),HB.out⟩
 · have h2:((s:Int) == 0)=false:=by simpa using h
   have HN:=Lib.hid h
   clear h
   go_enter Tryz.func94,Tryz.ntmps94
   go_wp2_with (go_at_call 93; refine (isFrom_any _ _ _ _).mono ?_; rintro e w' ⟨rfl,rfl⟩)
   go_ret
   exact ⟨ret_bool (by unfold kindB; rw [if_neg (by have:=HN.out; omega)]),HB.out⟩
set_option maxHeartbeats 1000000 in
theorem parMay_any (vr:Int) (s:Nat) (vs vt:Value) (C:Ch) (w:World) (hC:ChHas w vs vt C) (hl:Short C.sts.length) (hs:s < C.sts.length) :
 Calls Tryz.prog 95 #[.agg #[.int .i64 vr,vs,vt],.int .i64 (s:Int)] w fun e w'=>e=.returned (.bool (parB C.sts s))∧Below w.heap.size w w':=by
 have HB:=Lib.hid (below_box w (chBox vr vs vt))
 have HI:=Lib.hid (fun (W:World) (s t:Int) (h:Below (w.alloc (chBox vr vs vt)).heap.size (w.alloc (chBox vr vs vt)) W)=>isIn_any vr s t vs vt C W (hC.below (below_boxed h)) hl)
 unfold Short at hl
 obtain ⟨b,o,cap,vi,ve,vx,rfl,hcap,hlt,hst,_⟩:=hC.st hs
 obtain ⟨c0,c1,c2,c3,c4⟩:=hst
 clear hC
 by_cases h:s=0
 · have h2:((s:Int) == 0)=true:=by simpa using h
   have HN:=Lib.hid h
   clear h
   go_enter Tryz.func95,Tryz.ntmps95
   go_wp2_with fail
   go_ret
   exact ⟨ret_bool (by unfold parB; rw [if_pos (by have:=HN.out; omega)]; rfl),HB.out⟩
 · have h2:((s:Int) == 0)=false:=by simpa using h
   have HN:=Lib.hid h
   have h0:0≤(s:Int) - 1:=by omega
   by_cases hp:(stAt C.sts (s:Int)).par=(s:Int) - 1
   · have hp2:((stAt C.sts (s:Int)).par == (s:Int) - 1)=true:=by simpa using hp
     have HP:=Lib.hid hp
     clear h hp
     go_enter Tryz.func95,Tryz.ntmps95
     go_wp2_with fail
     go_ret
     exact ⟨ret_bool (by unfold parB; rw [if_neg (by have:=HN.out; omega),HP.out]; simp),HB.out⟩
   · have hp2:((stAt C.sts (s:Int)).par == (s:Int) - 1)=false:=by simpa using hp
     have HP:=Lib.hid hp
     clear h hp
     go_enter Tryz.func95,Tryz.ntmps95
     go_wp2_with fail
     refine (HI.out _ _ _ (Below.refl _ _)).mono ?_
     rintro e w1 ⟨rfl,hb1⟩
     have HB1:=Lib.hid (below_boxed hb1)
     clear hb1
     go_wp2_with fail
     go_ret
     exact ⟨ret_bool (by unfold parB; rw [if_neg (by have:=HN.out; omega)]; simp [HP.out]),HB1.out⟩
theorem needs_any (vr:Int) (s:Nat) (vs vt:Value) (C:Ch) (w:World) (hC:ChHas w vs vt C) (hl:Short C.sts.length) (hs:s < C.sts.length) :
 Calls Tryz.prog 97 #[.agg #[.int .i64 vr,vs,vt],.int .i64 (s:Int)] w fun e w'=>e=.returned (.bool (needsB C.sts s))∧Below w.heap.size w w':=by
 have HB:=Lib.hid (below_box w (chBox vr vs vt))
 unfold Short at hl
 obtain ⟨b,o,cap,vi,ve,vx,rfl,hcap,hlt,hst,_⟩:=hC.st hs
 obtain ⟨c0,c1,c2,c3,c4⟩:=hst
 clear hC
 by_cases h:(stAt C.sts (s:Int)).kind=2
 · have h2:((stAt C.sts (s:Int)).kind == 2)=true:=by simpa using h
   have HN:=Lib.hid h
   clear h
   go_enter Tryz.func97,Tryz.ntmps97
   go_wp2_with fail
   go_ret
   exact ⟨ret_bool (by unfold needsB; rw [HN.out]; rfl),HB.out⟩
 · have h2:((stAt C.sts (s:Int)).kind == 2)=false:=by simpa using h
   have HN:=Lib.hid h
   clear h
   go_enter Tryz.func97,Tryz.ntmps97
   go_wp2_with fail
   go_ret
   exact ⟨ret_bool (by unfold needsB; simp [HN.out]; rfl),HB.out⟩
theorem par_is {S:List St} {s:Nat} (hs:s < S.length) (h0:¬ s=0) (hp:parB S s=true):isSt S (stAt S s).par=true:=by
 unfold parB at hp
 rw [if_neg (by omega)] at hp
 simp only [Bool.or_eq_true,decide_eq_true_eq] at hp
 rcases hp with hp | hp
 · rw [hp]; unfold isSt; simp only [Bool.and_eq_true,decide_eq_true_eq]; omega
 · exact isSt_in hp

abbrev stBox (k p:Int) (vi ve vx:Value):Obj:=.cells #[.int .i64 k,.int .i64 p,vi,ve,vx] 63
theorem Blk.facts5 {w:World} {g:Nat} {t:TypeId} {a b c d e:Value} (h:Blk w g t #[a,b,c,d,e]) :
 w.cell? ⟨g,0,none⟩=some a∧w.cell? ⟨g,1,none⟩=some b∧w.cell? ⟨g,2,none⟩=some c∧w.cell? ⟨g,3,none⟩=some d∧w.cell? ⟨g,4,none⟩=some e:=⟨h.cell 0,h.cell 1,h.cell 2,h.cell 3,h.cell 4⟩
theorem below_two (w:World) (x y:Obj):Below w.heap.size w ((w.alloc x).alloc y):=((Below.refl _ _).alloc (Nat.le_refl _) x).alloc (by simp) y
theorem below_twod {w w1:World} {x y:Obj} (hb:Below ((w.alloc x).alloc y).heap.size ((w.alloc x).alloc y) w1):Below w.heap.size w w1:=(below_two w x y).trans (hb.mono (by simp; omega))
theorem two_later {w w1:World} {vr k p:Int} {vs vt vi ve vx:Value} (hb:Below ((w.alloc (chBox vr vs vt)).alloc (stBox k p vi ve vx)).heap.size ((w.alloc (chBox vr vs vt)).alloc (stBox k p vi ve vx)) w1) :
 (w1.cell? ⟨w.heap.size,0,none⟩=some (.int .i64 vr)∧w1.cell? ⟨w.heap.size,1,none⟩=some vs∧w1.cell? ⟨w.heap.size,2,none⟩=some vt) ∧
 (w1.cell? ⟨w.heap.size+1,0,none⟩=some (.int .i64 k)∧w1.cell? ⟨w.heap.size+1,1,none⟩=some (.int .i64 p)∧w1.cell? ⟨w.heap.size+1,2,none⟩=some vi∧w1.cell? ⟨w.heap.size+1,3,none⟩=some ve∧w1.cell? ⟨w.heap.size+1,4,none⟩=some vx) :=
 ⟨(((Blk.new w 25 #[.int .i64 vr,vs,vt]).alloc _).below hb (by simp; omega)).facts3.1,((Blk.new_at (w.alloc (chBox vr vs vt)) 63 #[.int .i64 k,.int .i64 p,vi,ve,vx] (w.heap.size+1) (by simp)).below hb (by simp)).facts5⟩
theorem kindIn_eq {S:List St} {s p:Nat} (h0:¬ s=0) (hp:(stAt S (s:Int)).par=(p:Int)):kindInB S (s:Int) =
 if (stAt S (s:Int)).kind=4 then decide ((stAt S (p:Int)).kind=2) else if histB (stAt S (s:Int)).kind=true∧p=0 then false else decide ((stAt S (p:Int)).kind=2) || decide ((stAt S (p:Int)).kind=3):=by
 unfold kindInB
 rw [if_neg (by omega),hp]
 simp only [show ((p:Int)=0)=(p=0) from propext (by omega)]
set_option maxHeartbeats 2000000 in
theorem kindIn_any (vr:Int) (s:Nat) (vs vt:Value) (C:Ch) (w:World) (hC:ChHas w vs vt C) (hl:Short C.sts.length) (hs:s < C.sts.length) (hp:parB C.sts s=true) :
 Calls Tryz.prog 96 #[.agg #[.int .i64 vr,vs,vt],.int .i64 (s:Int)] w fun e w'=>e=.returned (.bool (kindInB C.sts s))∧Below w.heap.size w w':=by
 have HB:=Lib.hid (below_box w (chBox vr vs vt))
 unfold Short at hl
 by_cases h:s=0
 · have h2:((s:Int) == 0)=true:=by simpa using h
   have HN:=Lib.hid h
   clear h
   go_enter Tryz.func96,Tryz.ntmps96
   go_wp2_with fail
   go_ret
   exact ⟨ret_bool (by unfold kindInB; rw [if_pos (by have:=HN.out; omega)]),HB.out⟩
 · have h2:((s:Int) == 0)=false:=by simpa using h
   obtain ⟨p,hpp,hpl⟩:=isSt_nat (par_is hs h hp)
   have HR:=Lib.hid (kindIn_eq h hpp)
   obtain ⟨b,o,cap,vi,ve,vx,rfl,hcap,hlt,hst,hhas⟩:=hC.st hs
   obtain ⟨ui,ue,ux,⟨d0,d1,d2,d3,d4⟩,_⟩:=hC.st' hpl
   obtain ⟨c0,c1,c2,c3,c4⟩:=hst
   obtain ⟨iA,icap,eA,ecap,xA,xcap,rfl,rfl,rfl⟩:=hhas.slices
   rw [hpp] at c1
   generalize (stAt C.sts (s:Int)).kind=K at *
   generalize (stAt C.sts (p:Int)).kind=O at *
   generalize (stAt C.sts (s:Int)).ini.length=il at *
   generalize (stAt C.sts (s:Int)).ent.length=el at *
   generalize (stAt C.sts (s:Int)).exi.length=xl at *
   have HB2:=Lib.hid (below_two w (chBox vr (.slice (some ⟨b,o,none⟩) C.sts.length cap) vt) (stBox K p (.slice iA il icap) (.slice eA el ecap) (.slice xA xl xcap)))
   clear h hC hp hpp hhas
   by_cases h4:K=4
   · have h42:(K == 4)=true:=by simpa using h4
     have H4:=Lib.hid h4
     clear h4
     go_enter Tryz.func96,Tryz.ntmps96
     go_wp2_with fail
     go_ret
     exact ⟨ret_bool (by rw [HR.out,if_pos H4.out]; rfl),HB2.out⟩
   · have h42:(K == 4)=false:=by simpa using h4
     have H4:=Lib.hid h4
     clear h4
     cases hh:histB K with
     | true =>
      have HH:=Lib.hid hh
      clear hh
      by_cases hp0:p=0
      · have hp02:((p:Int) == 0)=true:=by simpa using hp0
        have HP0:=Lib.hid hp0
        clear hp0
        go_enter Tryz.func96,Tryz.ntmps96
        go_wp2_with (go_at_call 92; refine (isHist_any _ _).mono ?_; rintro e w' ⟨rfl,rfl⟩; rw [HH.out])
        go_ret
        exact ⟨ret_bool (by rw [HR.out,if_neg H4.out,if_pos ⟨HH.out,HP0.out⟩]),HB2.out⟩
      · have hp02:((p:Int) == 0)=false:=by simpa using hp0
        have HP0:=Lib.hid hp0
        clear hp0
        by_cases ho:O=2
        · have ho2:(O == 2)=true:=by simpa using ho
          have HO:=Lib.hid ho
          clear ho
          go_enter Tryz.func96,Tryz.ntmps96
          go_wp2_with (go_at_call 92; refine (isHist_any _ _).mono ?_; rintro e w' ⟨rfl,rfl⟩; rw [HH.out])
          go_ret
          exact ⟨ret_bool (by rw [HR.out,if_neg H4.out,if_neg (by simp [HP0.out]),HO.out]; rfl),HB2.out⟩
        · have ho2:(O == 2)=false:=by simpa using ho
          have HO:=Lib.hid ho
          clear ho
          go_enter Tryz.func96,Tryz.ntmps96
          go_wp2_with (go_at_call 92; refine (isHist_any _ _).mono ?_; rintro e w' ⟨rfl,rfl⟩; rw [HH.out])
          go_ret
          exact ⟨ret_bool (by rw [HR.out,if_neg H4.out,if_neg (by simp [HP0.out])]; simp [HO.out]; rfl),HB2.out⟩
     | false =>
      have HH:=Lib.hid hh
      clear hh
      by_cases ho:O=2
      · have ho2:(O == 2)=true:=by simpa using ho
        have HO:=Lib.hid ho
        clear ho
        go_enter Tryz.func96,Tryz.ntmps96
        go_wp2_with (go_at_call 92; refine (isHist_any _ _).mono ?_; rintro e w' ⟨rfl,rfl⟩; rw [HH.out])
        go_ret
        exact ⟨ret_bool (by rw [HR.out,if_neg H4.out,if_neg (by rw [HH.out]; simp),HO.out]; rfl),HB2.out⟩
      · have ho2:(O == 2)=false:=by simpa using ho
        have HO:=Lib.hid ho
        clear ho
        go_enter Tryz.func96,Tryz.ntmps96
        go_wp2_with (go_at_call 92; refine (isHist_any _ _).mono ?_; rintro e w' ⟨rfl,rfl⟩; rw [HH.out])
        go_ret
        exact ⟨ret_bool (by rw [HR.out,if_neg H4.out,if_neg (by rw [HH.out]; simp)]; simp [HO.out]; rfl),HB2.out⟩

theorem len_dec (n k:Nat):((n:Int) == (k:Int))=decide (n=k):=by
 rw [Bool.eq_iff_iff,beq_iff_eq,decide_eq_true_eq]; omega
theorem ListAt.at_ {w:World} {A:Option Addr} {n cap:Nat} {xs:List Int} (h:ListAt w (.slice A n cap) xs) (i:Nat) (hi:i < xs.length):∃ b o:Nat,A=some ⟨b,o,none⟩∧b < w.heap.size∧w.cell? ⟨b,o+i,none⟩=some (.int .i64 (xs.getD i 0)):=by
 obtain ⟨A',cap',hv,hc,hx⟩:=h
 injection hv with h1 h2 h3
 subst h1
 obtain ⟨b,o,hA,hlt,hc⟩:=hx i (xs.getD i 0) (by simp [List.getD,List.getElem?_eq_getElem hi])
 rw [Nat.mul_one] at hc
 exact ⟨b,o,hA,hlt,hc⟩
set_option maxHeartbeats 2000000 in
theorem ini_any (vr:Int) (s:Nat) (vs vt:Value) (C:Ch) (w:World) (hC:ChHas w vs vt C) (hl:Short C.sts.length) (hs:s < C.sts.length) :
 Calls Tryz.prog 98 #[.agg #[.int .i64 vr,vs,vt],.int .i64 (s:Int)] w fun e w'=>e=.returned (.bool (iniB C.sts s))∧Below w.heap.size w w':=by
 have HCC:=Lib.hid hC
 unfold Short at hl
 obtain ⟨b,o,cap,vi,ve,vx,rfl,hcap,hlt,hst,hhas⟩:=hC.st hs
 obtain ⟨c0,c1,c2,c3,c4⟩:=hst
 have hini:=hhas.1
 obtain ⟨iA,icap,eA,ecap,xA,xcap,rfl,rfl,rfl⟩:=hhas.slices
 have hR:iniB C.sts (s:Int)=iniB C.sts (s:Int):=rfl
 conv at hR=>rhs; unfold iniB
 generalize iniB C.sts (s:Int)=R at *
 generalize (stAt C.sts (s:Int)).kind=K at *
 generalize (stAt C.sts (s:Int)).par=P at *
 generalize (stAt C.sts (s:Int)).ini=L at *
 generalize (stAt C.sts (s:Int)).ent.length=el at *
 generalize (stAt C.sts (s:Int)).exi.length=xl at *
 have HB2:=Lib.hid (below_two w (chBox vr (.slice (some ⟨b,o,none⟩) C.sts.length cap) vt) (stBox K P (.slice iA L.length icap) (.slice eA el ecap) (.slice xA xl xcap)))
 clear hC hhas
 -- of what kinds it is asked
 by_cases hno:K ≠ 2∧histB K=false
 · rw [if_pos hno] at hR
   have HR:=Lib.hid hR
   have hk2:(K != 2)=true:=by simpa using hno.1
   have HH:=Lib.hid hno.2
   clear hno hR hini
   go_enter Tryz.func98,Tryz.ntmps98
   go_wp2_with (go_at_call 92; refine (isHist_any _ _).mono ?_; rintro e w' ⟨rfl,rfl⟩; rw [HH.out])
   go_ret
   exact ⟨ret_bool (by rw [HR.out]; exact len_dec _ 0),HB2.out⟩
 · rw [if_neg hno] at hR
   have hK:K=2 ∨ K=5 ∨ K=6:=by
    unfold histB at hno
    by_cases h2:K=2
    · exact .inl h2
    · by_cases h5:K=5
      · exact .inr (.inl h5)
      · by_cases h6:K=6
        · exact .inr (.inr h6)
        · exact absurd ⟨h2,by simp [h5,h6]⟩ hno
   clear hno
   by_cases hlen:L.length ≠ 1
   · rw [if_pos hlen] at hR
     have HR:=Lib.hid hR
     have hl1:((L.length:Int) != 1)=true:=by simp; omega
     clear hR hini hlen
     rcases hK with rfl | rfl | rfl
     · go_enter Tryz.func98,Tryz.ntmps98
       go_wp2_with fail
       go_ret
       exact ⟨ret_bool HR.out.symm,HB2.out⟩
     · go_enter Tryz.func98,Tryz.ntmps98
       go_wp2_with fail
       refine (isHist_any _ _).mono ?_
       rintro e w' ⟨rfl,rfl⟩
       rw [show histB 5=true from rfl]
       go_wp2_with fail
       go_ret
       exact ⟨ret_bool HR.out.symm,HB2.out⟩
     · go_enter Tryz.func98,Tryz.ntmps98
       go_wp2_with fail
       refine (isHist_any _ _).mono ?_
       rintro e w' ⟨rfl,rfl⟩
       rw [show histB 6=true from rfl]
       go_wp2_with fail
       go_ret
       exact ⟨ret_bool HR.out.symm,HB2.out⟩
   · rw [if_neg hlen] at hR
     have hl0:0 < L.length:=by omega
     have hl1:((L.length:Int) != 1)=false:=by simp; omega
     obtain ⟨ib,io,rfl,hilt,hic⟩:=hini.at_ 0 hl0
     rw [Nat.add_zero] at hic
     generalize L.getD 0 0=f at *
     have HS:=Lib.hid (fun (W:World) (h:Below w.heap.size w W)=>isState_any vr f _ vt C W (HCC.out.below h) hl)
     have HI:=Lib.hid (fun (W:World) (t:Int) (h:Below w.heap.size w W)=>isIn_any vr f t _ vt C W (HCC.out.below h) hl)
     clear hini hlen
     cases hsf:isSt C.sts f with
     | false =>
      rw [if_pos (.inl hsf)] at hR
      have HR:=Lib.hid hR
      have HSF:=Lib.hid hsf
      clear hR hsf
      rcases hK with rfl | rfl | rfl
      · go_enter Tryz.func98,Tryz.ntmps98
        go_wp2_with fail
        refine (HS.out _ HB2.out).mono ?_
        rintro e w1 ⟨rfl,hb1⟩
        obtain ⟨⟨x0,x1,x2⟩,y0,y1,y2,y3,y4⟩:=two_later hb1
        have HB1:=Lib.hid (below_twod hb1)
        rw [HSF.out]
        clear hb1
        go_wp2_with fail
        go_ret
        exact ⟨ret_bool HR.out.symm,HB1.out⟩
      · go_enter Tryz.func98,Tryz.ntmps98
        go_wp2_with fail
        refine (isHist_any _ _).mono ?_
        rintro e w' ⟨rfl,rfl⟩
        rw [show histB 5=true from rfl]
        go_wp2_with fail
        refine (HS.out _ HB2.out).mono ?_
        rintro e w1 ⟨rfl,hb1⟩
        obtain ⟨⟨x0,x1,x2⟩,y0,y1,y2,y3,y4⟩:=two_later hb1
        have HB1:=Lib.hid (below_twod hb1)
        rw [HSF.out]
        clear hb1
        go_wp2_with fail
        go_ret
        exact ⟨ret_bool HR.out.symm,HB1.out⟩
      · go_enter Tryz.func98,Tryz.ntmps98
        go_wp2_with fail
        refine (isHist_any _ _).mono ?_
        rintro e w' ⟨rfl,rfl⟩
        rw [show histB 6=true from rfl]
        go_wp2_with fail
        refine (HS.out _ HB2.out).mono ?_
        rintro e w1 ⟨rfl,hb1⟩
        obtain ⟨⟨x0,x1,x2⟩,y0,y1,y2,y3,y4⟩:=two_later hb1
        have HB1:=Lib.hid (below_twod hb1)
        rw [HSF.out]
        clear hb1
        go_wp2_with fail
        go_ret
        exact ⟨ret_bool HR.out.symm,HB1.out⟩
     | true =>
      obtain ⟨q,rfl,hq⟩:=isSt_nat hsf
      obtain ⟨ui,ue,ux,hsq,_⟩:=HCC.out.st' hq
      have HSQ:=Lib.hid hsq
      have HSF:=Lib.hid hsf
      clear hsq hsf
      cases hh:histB (stAt C.sts (q:Int)).kind with
      | true =>
       rw [if_pos (.inr hh)] at hR
       have HR:=Lib.hid hR
       have HH:=Lib.hid hh
       clear hR hh
       rcases hK with rfl | rfl | rfl
       · go_enter Tryz.func98,Tryz.ntmps98
         go_wp2_with fail
         refine (HS.out _ HB2.out).mono ?_
         rintro e w1 ⟨rfl,hb1⟩
         obtain ⟨⟨x0,x1,x2⟩,y0,y1,y2,y3,y4⟩:=two_later hb1
         have HB1:=Lib.hid (below_twod hb1)
         rw [HSF.out]
         obtain ⟨d0,d1,d2,d3,d4⟩:=HSQ.out.below HB1.out hlt
         clear hb1
         go_wp2_with fail
         refine (isHist_any _ _).mono ?_
         rintro e w' ⟨rfl,rfl⟩
         rw [HH.out]
         go_wp2_with fail
         go_ret
         exact ⟨ret_bool HR.out.symm,HB1.out⟩
       · go_enter Tryz.func98,Tryz.ntmps98
         go_wp2_with fail
         refine (isHist_any _ _).mono ?_
         rintro e w' ⟨rfl,rfl⟩
         rw [show histB 5=true from rfl]
         go_wp2_with fail
         refine (HS.out _ HB2.out).mono ?_
         rintro e w1 ⟨rfl,hb1⟩
         obtain ⟨⟨x0,x1,x2⟩,y0,y1,y2,y3,y4⟩:=two_later hb1
         have HB1:=Lib.hid (below_twod hb1)
         rw [HSF.out]
         obtain ⟨d0,d1,d2,d3,d4⟩:=HSQ.out.below HB1.out hlt
         clear hb1
         go_wp2_with fail
         refine (isHist_any _ _).mono ?_
         rintro e w' ⟨rfl,rfl⟩
         rw [HH.out]
         go_wp2_with fail
         go_ret
         exact ⟨ret_bool HR.out.symm,HB1.out⟩
       · go_enter Tryz.func98,Tryz.ntmps98
         go_wp2_with fail
         refine (isHist_any _ _).mono ?_
         rintro e w' ⟨rfl,rfl⟩
         rw [show histB 6=true from rfl]
         go_wp2_with fail
         refine (HS.out _ HB2.out).mono ?_
         rintro e w1 ⟨rfl,hb1⟩
         obtain ⟨⟨x0,x1,x2⟩,y0,y1,y2,y3,y4⟩:=two_later hb1
         have HB1:=Lib.hid (below_twod hb1)
         rw [HSF.out]
         obtain ⟨d0,d1,d2,d3,d4⟩:=HSQ.out.below HB1.out hlt
         clear hb1
         go_wp2_with fail
         refine (isHist_any _ _).mono ?_
         rintro e w' ⟨rfl,rfl⟩
         rw [HH.out]
         go_wp2_with fail
         go_ret
         exact ⟨ret_bool HR.out.symm,HB1.out⟩
      | false =>
       rw [if_neg (by rw [HSF.out,hh]; simp)] at hR
       have HR:=Lib.hid hR
       have HH:=Lib.hid hh
       clear hR hh
       rcases hK with rfl | rfl | rfl
       · go_enter Tryz.func98,Tryz.ntmps98
         go_wp2_with fail
         refine (HS.out _ HB2.out).mono ?_
         rintro e w1 ⟨rfl,hb1⟩
         obtain ⟨⟨x0,x1,x2⟩,y0,y1,y2,y3,y4⟩:=two_later hb1
         have HB1:=Lib.hid (below_twod hb1)
         rw [HSF.out]
         obtain ⟨d0,d1,d2,d3,d4⟩:=HSQ.out.below HB1.out hlt
         clear hb1
         go_wp2_with fail
         refine (isHist_any _ _).mono ?_
         rintro e w' ⟨rfl,rfl⟩
         rw [HH.out]
         go_wp2_with fail
         refine (HI.out _ _ HB1.out).mono ?_
         rintro e w2 ⟨rfl,hb2⟩
         have HB3:=Lib.hid (HB1.out.trans (hb2.mono HB1.out.size))
         clear hb2
         go_wp2_with fail
         go_ret
         exact ⟨ret_bool (by rw [HR.out]; rfl),HB3.out⟩
       · go_enter Tryz.func98,Tryz.ntmps98
         go_wp2_with fail
         refine (isHist_any _ _).mono ?_
         rintro e w' ⟨rfl,rfl⟩
         rw [show histB 5=true from rfl]
         go_wp2_with fail
         refine (HS.out _ HB2.out).mono ?_
         rintro e w1 ⟨rfl,hb1⟩
         obtain ⟨⟨x0,x1,x2⟩,y0,y1,y2,y3,y4⟩:=two_later hb1
         have HB1:=Lib.hid (below_twod hb1)
         rw [HSF.out]
         obtain ⟨d0,d1,d2,d3,d4⟩:=HSQ.out.below HB1.out hlt
         clear hb1
         go_wp2_with fail
         refine (isHist_any _ _).mono ?_
         rintro e w' ⟨rfl,rfl⟩
         rw [HH.out]
         go_wp2_with fail
         go_quiet (fail)
         go_wp2
         go_ret
         exact ⟨ret_bool (by rw [HR.out]; rfl),below_drewN HB1.out _⟩
       · go_enter Tryz.func98,Tryz.ntmps98
         go_wp2_with fail
         refine (isHist_any _ _).mono ?_
         rintro e w' ⟨rfl,rfl⟩
         rw [show histB 6=true from rfl]
         go_wp2_with fail
         refine (HS.out _ HB2.out).mono ?_
         rintro e w1 ⟨rfl,hb1⟩
         obtain ⟨⟨x0,x1,x2⟩,y0,y1,y2,y3,y4⟩:=two_later hb1
         have HB1:=Lib.hid (below_twod hb1)
         rw [HSF.out]
         obtain ⟨d0,d1,d2,d3,d4⟩:=HSQ.out.below HB1.out hlt
         clear hb1
         go_wp2_with fail
         refine (isHist_any _ _).mono ?_
         rintro e w' ⟨rfl,rfl⟩
         rw [HH.out]
         go_wp2_with fail
         refine (HI.out _ _ HB1.out).mono ?_
         rintro e w2 ⟨rfl,hb2⟩
         have HB3:=Lib.hid (HB1.out.trans (hb2.mono HB1.out.size))
         clear hb2
         go_wp2_with fail
         go_ret
         exact ⟨ret_bool (by rw [HR.out]; rfl),HB3.out⟩
end Go.Proofs.YtmhkpjcdkjnlnaaGreatDoor
