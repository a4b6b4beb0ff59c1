/- Trees in memory; the contracts of tree's smallest methods: has, parent, Kind, In, isHistory, bit. -/
import Derived.Test.YtmhkpjcdkjnlnaaGreatDoorFUTcc
import Derived.Laws.BitsLemmas
import Derived.Test.YtmhkpjcdkjnlnaaGreatDoorFUKsm
namespace Go.Proofs.YtmhkpjcdkjnlnaaGreatDoor
open Go.ChangeShapes Go.WideShapes Go.ChangeAt Go.RowKit
set_option linter.unusedVariables false

def TreeAt (w:World) (g:Nat) (C:Ch):Prop:=∃ vs vt,Blk w g 70 #[.int .i64 C.vars,vs,vt]∧ChHas w vs vt C
theorem TreeAt.below {w w':World} {g:Nat} {C:Ch} (h:TreeAt w g C) (hb:Below w.heap.size w w'):TreeAt w' g C:=by
 obtain ⟨vs,vt,h1,h2⟩:=h
 exact ⟨vs,vt,h1.below hb h1.lt,h2.below hb⟩
def parT (S:List St) (s:Int):Int:=if isSt S s=true then (stAt S s).par else -1
def kindT (S:List St) (s:Int):Int:=if isSt S s=true then (stAt S s).kind else 0
theorem has_any (g:Nat) (s:Int) (C:Ch) (w:World) (hT:TreeAt w g C) (hl:C.sts.length≤1000) :
 Calls Tryz.prog 56 #[.pointer (some ⟨g,0,none⟩),.int .i64 s] w fun e w'=>e=.returned (.bool (isSt C.sts s))∧w=w':=by
 obtain ⟨vs,vt,hX,hC⟩:=hT
 obtain ⟨A,cap,rfl,hcap⟩:=RowsAt.slice hC.1
 obtain ⟨⟨x0,x1,x2⟩,-⟩:=hX.facts3
 clear hX hC
 by_cases h:0≤s
 · have h2:decide (0≤s)=true:=by simpa using h
   go_enter Tryz.func56,Tryz.ntmps56
   go_wp2
   go_ret
   exact ⟨ret_bool (by unfold isSt; rw [h2]; rfl),rfl⟩
 · have h2:decide (0≤s)=false:=by simpa using h
   go_enter Tryz.func56,Tryz.ntmps56
   go_wp2
   go_ret
   exact ⟨ret_bool (by unfold isSt; rw [h2]; rfl),rfl⟩
theorem parent_any (g:Nat) (s:Int) (C:Ch) (w:World) (hT:TreeAt w g C) (hl:C.sts.length≤1000) :
 Calls Tryz.prog 45 #[.pointer (some ⟨g,0,none⟩),.int .i64 s] w fun e w'=>e=.returned (.int .i64 (parT C.sts s))∧w=w':=by
 have HH:=Lib.hid (has_any g s C w hT hl)
 obtain ⟨vs,vt,hX,hC⟩:=hT
 have HX:=Lib.hid hX
 cases h:isSt C.sts s with
 | false =>
  have HI:=Lib.hid h
  have hR:parT C.sts s=-1:=by unfold parT; rw [if_neg (by rw [h]; simp)]
  have HR:=Lib.hid hR
  clear h hX hC hR
  go_enter Tryz.func45,Tryz.ntmps45
  go_wp2_with fail
  refine HH.out.mono ?_
  rintro e w1 ⟨rfl,rfl⟩
  rw [HI.out]
  go_wp2_with fail
  go_ret
  exact ⟨ret_int HR.out.symm,rfl⟩
 | true =>
  have HI:=Lib.hid h
  obtain ⟨k,rfl,hk⟩:=isSt_nat h
  have hR:parT C.sts (k:Int)=(stAt C.sts (k:Int)).par:=by unfold parT; rw [if_pos h]
  have HR:=Lib.hid hR
  obtain ⟨b,o,cap,vi,ve,vx,rfl,hcap,hlt,⟨c0,c1,c2,c3,c4⟩,_⟩:=hC.st hk
  obtain ⟨⟨x0,x1,x2⟩,-⟩:=hX.facts3
  clear h hC hX hR
  go_enter Tryz.func45,Tryz.ntmps45
  go_wp2_with fail
  refine HH.out.mono ?_
  rintro e w1 ⟨rfl,rfl⟩
  rw [HI.out]
  go_wp2_with fail
  go_ret
  exact ⟨ret_int HR.out.symm,rfl⟩
theorem kindT_any (g:Nat) (s:Int) (C:Ch) (w:World) (hT:TreeAt w g C) (hl:C.sts.length≤1000) :
 Calls Tryz.prog 50 #[.pointer (some ⟨g,0,none⟩),.int .i64 s] w fun e w'=>e=.returned (.int .i64 (kindT C.sts s))∧w=w':=by
 have HH:=Lib.hid (has_any g s C w hT hl)
 obtain ⟨vs,vt,hX,hC⟩:=hT
 have HX:=Lib.hid hX
 cases h:isSt C.sts s with
 | false =>
  have HI:=Lib.hid h
  have hR:kindT C.sts s=0:=by unfold kindT; rw [if_neg (by rw [h]; simp)]
  have HR:=Lib.hid hR
  clear h hX hC hR
  go_enter Tryz.func50,Tryz.ntmps50
  go_wp2_with fail
  refine HH.out.mono ?_
  rintro e w1 ⟨rfl,rfl⟩
  rw [HI.out]
  go_wp2_with fail
  go_ret
  exact ⟨ret_int HR.out.symm,rfl⟩
 | true =>
  have HI:=Lib.hid h
  obtain ⟨k,rfl,hk⟩:=isSt_nat h
  have hR:kindT C.sts (k:Int)=(stAt C.sts (k:Int)).kind:=by unfold kindT; rw [if_pos h]
  have HR:=Lib.hid hR
  obtain ⟨b,o,cap,vi,ve,vx,rfl,hcap,hlt,⟨c0,c1,c2,c3,c4⟩,_⟩:=hC.st hk
  obtain ⟨⟨x0,x1,x2⟩,-⟩:=hX.facts3
  clear h hC hX hR
  go_enter Tryz.func50,Tryz.ntmps50
  go_wp2_with fail
  refine HH.out.mono ?_
  rintro e w1 ⟨rfl,rfl⟩
  rw [HI.out]
  go_wp2_with fail
  go_ret
  exact ⟨ret_int HR.out.symm,rfl⟩
theorem isHistT_any (g:Nat) (s:Int) (C:Ch) (w:World) (hT:TreeAt w g C) (hl:C.sts.length≤1000) :
 Calls Tryz.prog 54 #[.pointer (some ⟨g,0,none⟩),.int .i64 s] w fun e w'=>e=.returned (.bool (histB (kindT C.sts s)))∧w=w':=by
 have HH:=Lib.hid (kindT_any g s C w hT hl)
 generalize kindT C.sts s=K at *
 clear hT
 by_cases h:K=5
 · subst h
   go_enter Tryz.func54,Tryz.ntmps54
   go_wp2_with fail
   refine HH.out.mono ?_
   rintro e w1 ⟨rfl,rfl⟩
   go_wp2_with fail
   go_ret
   exact ⟨rfl,rfl⟩
 · have h2:(K == 5)=false:=by simpa using h
   go_enter Tryz.func54,Tryz.ntmps54
   go_wp2_with fail
   refine HH.out.mono ?_
   rintro e w1 ⟨rfl,rfl⟩
   go_wp2_with fail
   go_ret
   exact ⟨ret_bool (by unfold histB; simp [h]; rfl),rfl⟩
def Rooted (S:List St):Prop:=∀ s,parT S s=cUp S s
theorem rooted_of {T:ByteArray→Int→Int→Bool} {C:Ch} (h:chk T C=.ok):Rooted C.sts:=by
 intro s
 unfold parT cUp
 cases hs:isSt C.sts s with
 | false=>simp
 | true =>
  obtain ⟨k,rfl,hk⟩:=isSt_nat hs
  simp only [if_true,true_and]
  by_cases h0:k=0
  · subst h0
    have hp:=stF_par ((chk_ok h).2.1 0 hk)
    unfold parB at hp
    simp at hp
    have hp':(stAt C.sts ((0:Nat):Int)).par=-1:=hp
    rw [hp']
    simp [fromB]
  · have hp:=par_of h (k:Int) (by omega) (by omega)
    unfold cUp at hp
    simp only [hs,true_and] at hp
    split at hp
    · rename_i hf
      rw [if_pos hf]
    · omega
set_option maxHeartbeats 1000000 in
theorem inT_any (g:Nat) (a b:Int) (C:Ch) (w:World) (hT:TreeAt w g C) (hl:C.sts.length≤1000) (hR:Rooted C.sts) :
 Calls Tryz.prog 53 #[.pointer (some ⟨g,0,none⟩),.int .i64 a,.int .i64 b] w fun e w'=>e=.returned (.bool (cIn C.sts a b))∧w=w':=by
 have HA:=Lib.hid (fun (s:Int)=>parent_any g s C w hT hl)
 have HRT:=Lib.hid hR
 have h0:cIn C.sts a b=inF C.sts (a.toNat+1) (cUp C.sts a) b:=rfl
 have hge:=cUp_ge C.sts a
 have hle:=cUp_le C.sts a
 have hpos:(cUp C.sts a+1).toNat≤a.toNat+1:=by rcases hle with h | h <;> omega
 have HUP:=Lib.hid (fun q=>cUp_step C.sts q)
 have HGE:=Lib.hid (fun q=>cUp_ge C.sts q)
 generalize cIn C.sts a b=R at *
 have H0:=Lib.hid h0
 clear h0 hT hle hR
 go_enter Tryz.func53,Tryz.ntmps53
 go_wp2_with fail
 refine (HA.out a).mono ?_
 rintro e w1 ⟨rfl,rfl⟩
 rw [HRT.out a]
 generalize cUp C.sts a=u at *
 go_wp2_with fail
 go_loopw [7] (fun p wr=>∃ (n:Nat) (q:Int),-1≤q∧(q+1).toNat≤n∧p=.int .i64 q∧Hid (R=inF C.sts n q b)∧wr=w) (fun p _=>(intOf p+1).toNat)
 case atStart=>exact ⟨a.toNat+1,u,hge,hpos,rfl,H0,rfl⟩
 case round =>
  obtain ⟨n,q,hq1,hn,rfl,HR,rfl⟩:=hrel
  by_cases hq:q=-1
  · have hR:=HR.out
    have:inF C.sts n q b=false:=by
     cases n with
     | zero=>rfl
     | succ n=>rw [inF,if_pos (by omega)]
    rw [this] at hR
    have HRR:=Lib.hid hR
    subst hq
    clear hR this
    go_wp2_with fail
    go_ret
    exact ⟨ret_bool HRR.out.symm,rfl⟩
  · obtain ⟨m,rfl⟩:∃ m,n=m+1:=⟨n - 1,by omega⟩
    have hR:=HR.out
    rw [inF,if_neg (by omega)] at hR
    have hq2:(q != -1)=true:=by simpa using hq
    by_cases hqb:q=b
    · rw [if_pos hqb] at hR
      have HRR:=Lib.hid hR
      have hqb2:(q == b)=true:=by simpa using hqb
      clear hR hqb
      go_wp2_with fail
      go_ret
      exact ⟨ret_bool HRR.out.symm,rfl⟩
    · rw [if_neg hqb] at hR
      have HRR:=Lib.hid hR
      have hqb2:(q == b)=false:=by simpa using hqb
      have hst:=HUP.out q (by omega)
      have hg2:=HGE.out q
      clear hR hqb
      go_wp2_with fail
      refine (HA.out q).mono ?_
      rintro e w2 ⟨rfl,rfl⟩
      rw [HRT.out q]
      generalize cUp C.sts q=u2 at *
      go_wp2
      go_roundw
      case rel=>exact ⟨m,u2,hg2,by omega,rfl,HRR,trivial⟩
      case measure=>simp [intOf]; omega

def bset (P:Nat→Bool):Nat→Nat
 | 0=>0
 | n+1=>bset P n+if P n=true then 2 ^ n else 0
theorem bset_lt (P:Nat→Bool):∀ n,bset P n < 2 ^ n
 | 0=>by simp [bset]
 | n+1=>by
  have:=bset_lt P n
  rw [bset,Nat.pow_succ]
  split <;> omega
theorem bset_or (P:Nat→Bool) (n:Nat):bset P n ||| 2 ^ n=bset P n+2 ^ n:=by
 have:=Nat.two_pow_add_eq_or_of_lt (bset_lt P n) 1
 rw [Nat.mul_one] at this
 rw [Nat.or_comm,← this,Nat.add_comm]
theorem bset_bit (P:Nat→Bool):∀ (n k:Nat),k < n→bset P n / 2 ^ k % 2=if P k=true then 1 else 0
 | 0,k,h=>by omega
 | n+1,k,h=>by
  rw [bset]
  by_cases hk:k < n
  · have ih:=bset_bit P n k hk
    split
    · rw [show 2 ^ n=2 ^ k * (2 * 2 ^ (n - k - 1)) by rw [← Nat.pow_succ',← Nat.pow_add]; congr 1; omega,Nat.add_mul_div_left _ _ (Nat.pow_pos (by decide)),Nat.add_mul_mod_self_left]
      exact ih
    · rw [Nat.add_zero]
      exact ih
  · obtain rfl:k=n:=by omega
    have hlt:=bset_lt P k
    split
    · rw [Nat.add_div_right _ (Nat.pow_pos (by decide)),Nat.div_eq_of_lt hlt]
    · rw [Nat.add_zero,Nat.div_eq_of_lt hlt]
theorem bit_any (k:Nat) (hk:k≤31) (w:World):Calls Tryz.prog 55 #[.int .i64 (k:Int)] w fun e w'=>e=.returned (.int .u32 ((2 ^ k:Nat):Int))∧w=w':=by
 have h0:decide ((k:Int) < 0)=false:=by simp
 go_enter Tryz.func55,Tryz.ntmps55
 go_wp2_with fail
 go_ret
 refine ⟨ret_int ?_,rfl⟩
 have h1:(2:Nat) ^ k≤2 ^ 31:=Nat.pow_le_pow_right (by decide) hk
 have h2:((2:Int) ^ k)=((2 ^ k:Nat):Int):=by simp
 rw [show (2:Nat) ^ 31=2147483648 by decide] at h1
 rw [h2]
 generalize 2 ^ k=m at *
 omega
def belowP (S:List St) (s:Int) (k:Nat):Bool:=cIn S (k:Int) s && !histB (stAt S (k:Int)).kind
def belowN (S:List St) (s:Int):Nat:=bset (belowP S s) S.length
theorem wrap_u32 (n:Int) (h0:0≤n) (h1:n < 2 ^ 32):IntKind.u32.wrap n=n:=by
 simp [IntKind.wrap,IntKind.bits,IntKind.signed] at h1 ⊢
 omega
theorem or_step (P:Nat→Bool) (k:Nat) (hk:k≤31) (hP:P k=true):bits .or .u32 ((bset P k:Nat):Int) ((2:Int) ^ k)=((bset P (k+1):Nat):Int):=by
 have h1:2 ^ k < 2 ^ 32:=Nat.pow_lt_pow_right (by decide) (by omega)
 have h2:((2:Int) ^ k)=((2 ^ k:Nat):Int):=by simp
 rw [h2,(bits_nat .u32 32 (by decide) wrap_u32 _ _ (Nat.lt_trans (bset_lt P k) h1) h1).2,bset_or,bset,hP]
 rfl
set_option maxHeartbeats 1000000 in
theorem below_any (g:Nat) (s:Int) (C:Ch) (w:World) (hT:TreeAt w g C) (hl:C.sts.length≤31) (hR:Rooted C.sts) :
 Calls Tryz.prog 24 #[.pointer (some ⟨g,0,none⟩),.int .i64 s] w fun e w'=>e=.returned (.int .u32 ((belowN C.sts s:Nat):Int))∧w=w':=by
 have HI:=Lib.hid (fun (a:Int)=>inT_any g a s C w hT (by omega) hR)
 have HH:=Lib.hid (fun (a:Int)=>isHistT_any g a C w hT (by omega))
 obtain ⟨vs,vt,hX,hC⟩:=hT
 obtain ⟨A,cap,rfl,hcap⟩:=RowsAt.slice hC.1
 obtain ⟨⟨x0,x1,x2⟩,-⟩:=hX.facts3
 clear hX hC
 go_enter Tryz.func24,Tryz.ntmps24
 go_wp2_with fail
 go_loopw [5,13] (fun v i wr=>∃ k:Nat,k≤C.sts.length∧i=.int .i64 (k:Int)∧v=.int .u32 ((bset (belowP C.sts s) k:Nat):Int)∧wr=w) (fun _ i _=>C.sts.length - (intOf i).toNat)
 case atStart=>exact ⟨0,Nat.zero_le _,rfl,rfl,rfl⟩
 case round =>
  obtain ⟨k,hk,rfl,rfl,rfl⟩:=hrel
  by_cases hlt:k < C.sts.length
  · have hP:belowP C.sts s k=(cIn C.sts (k:Int) s && !histB (kindT C.sts (k:Int))):=by unfold belowP kindT; rw [if_pos (isSt_of hlt)]
    have hb0:=bset_lt (belowP C.sts s) k
    have hor:=or_step (belowP C.sts s) k (by omega)
    have hno:belowP C.sts s k=false→bset (belowP C.sts s) (k+1)=bset (belowP C.sts s) k:=fun h=>by rw [bset,h]; simp
    have hB':∃ B',bset (belowP C.sts s) (k+1)=B':=⟨_,rfl⟩
    obtain ⟨B',hB'⟩:=hB'
    rw [hB'] at hor hno
    have HB':=Lib.hid hB'
    clear hB'
    generalize bset (belowP C.sts s) k=B at *
    generalize belowP C.sts s k=P at *
    have HP:=Lib.hid hP
    have HOR:=Lib.hid hor
    have HNO:=Lib.hid hno
    clear hP hor hno
    cases hi:cIn C.sts (k:Int) s with
    | false =>
     have HII:=Lib.hid hi
     clear hi
     go_wp2_with fail
     refine (HI.out _).mono ?_
     rintro e w1 ⟨rfl,rfl⟩
     rw [HII.out]
     go_wp2_with fail
     go_roundw
     case rel=>exact ⟨k+1,by omega,by go_num,by rw [HB'.out,HNO.out (by rw [HP.out,HII.out]; rfl)],trivial⟩
     case measure=>simp [intOf]; omega
    | true =>
     cases hh:histB (kindT C.sts (k:Int)) with
     | true =>
      have HII:=Lib.hid hi
      have HHH:=Lib.hid hh
      clear hi hh
      go_wp2_with fail
      refine (HI.out _).mono ?_
      rintro e w1 ⟨rfl,rfl⟩
      rw [HII.out]
      go_wp2_with fail
      refine (HH.out _).mono ?_
      rintro e w1 ⟨rfl,rfl⟩
      rw [HHH.out]
      go_wp2_with fail
      go_roundw
      case rel=>exact ⟨k+1,by omega,by go_num,by rw [HB'.out,HNO.out (by rw [HP.out,HII.out,HHH.out]; rfl)],trivial⟩
      case measure=>simp [intOf]; omega
     | false =>
      have HII:=Lib.hid hi
      have HHH:=Lib.hid hh
      clear hi hh
      go_wp2_with fail
      refine (HI.out _).mono ?_
      rintro e w1 ⟨rfl,rfl⟩
      rw [HII.out]
      go_wp2_with fail
      refine (HH.out _).mono ?_
      rintro e w1 ⟨rfl,rfl⟩
      rw [HHH.out]
      go_wp2_with fail
      refine (bit_any k (by omega) _).mono ?_
      rintro e w1 ⟨rfl,rfl⟩
      go_wp2_with fail
      go_roundw
      case rel=>exact ⟨k+1,by omega,by go_num,by rw [HB'.out,← HOR.out (by rw [HP.out,HII.out,HHH.out]; rfl)],trivial⟩
      case measure=>simp [intOf]; omega
  · obtain rfl:k=C.sts.length:=by omega
    go_wp2_with fail
    go_ret
    exact ⟨rfl,rfl⟩

theorem hasBit_any (n k:Nat) (hn:n < 2 ^ 32) (hk:k≤1000) (w:World):Calls Tryz.prog 38 #[.int .u32 (n:Int),.int .i64 (k:Int)] w fun e w'=>e=.returned (.bool (decide (n / 2 ^ k % 2=1)))∧w=w':=by
 go_enter Tryz.func38,Tryz.ntmps38
 go_wp2_with fail
 go_loopw [0,5] (fun v i wr=>∃ q:Nat,q≤k∧i=.int .i64 (q:Int)∧v=.int .u32 ((n / 2 ^ q:Nat):Int)∧wr=w) (fun _ i _=>k - (intOf i).toNat)
 case atStart=>exact ⟨0,Nat.zero_le _,rfl,by simp,rfl⟩
 case round =>
  obtain ⟨q,hq,rfl,rfl,rfl⟩:=hrel
  have hle:n / 2 ^ q < 4294967296:=Nat.lt_of_le_of_lt (Nat.div_le_self _ _) hn
  have hnext:n / 2 ^ q / 2=n / 2 ^ (q+1):=by rw [Nat.div_div_eq_div_mul,Nat.pow_succ]
  have hm:∃ m,m=n / 2 ^ q:=⟨_,rfl⟩
  obtain ⟨m,hm⟩:=hm
  rw [← hm] at hle hnext ⊢
  have HNX:=Lib.hid hnext
  have HM:=Lib.hid hm
  clear hnext hm
  by_cases hlt:q < k
  · go_wp2_with fail
    go_roundw
    case rel=>exact ⟨q+1,by omega,by go_num,by rw [← HNX.out]; simp,trivial⟩
    case measure=>simp [intOf]; omega
  · obtain rfl:q=k:=by omega
    go_wp2_with fail
    go_ret
    exact ⟨ret_bool (by rw [← HM.out,Bool.eq_iff_iff]; simp; omega),rfl⟩
theorem past_any (vr:Int) (vs vt:Value) (C:Ch) (k:Nat) (w:World) (hC:ChHas w vs vt C) (hl:C.sts.length≤1000) (hk:k < C.sts.length) :
 Calls Tryz.prog 19 #[.agg #[.int .i64 vr,vs,vt],.int .i64 (k:Int)] w fun e w'=>e=.returned (.bool (histB (stAt C.sts (k:Int)).kind))∧Below w.heap.size w w':=by
 have HB:=Lib.hid (below_box w (chBox vr vs vt))
 obtain ⟨b,o,cap,vi,ve,vx,rfl,hcap,hlt,⟨c0,c1,c2,c3,c4⟩,_⟩:=hC.st hk
 clear hC
 generalize (stAt C.sts (k:Int)).kind=K at *
 by_cases h:K=5
 · subst h
   go_enter Tryz.func19,Tryz.ntmps19
   go_wp2_with fail
   try go_quiet (fail)
   try go_wp2_with fail
   go_ret
   exact ⟨rfl,HB.out⟩
 · have h2:(K == 5)=false:=by simpa using h
   go_enter Tryz.func19,Tryz.ntmps19
   go_wp2_with fail
   try go_quiet (fail)
   try go_wp2_with fail
   go_ret
   exact ⟨ret_bool (by unfold histB; simp [h]; rfl),HB.out⟩
set_option maxHeartbeats 1000000 in
theorem allIn_any (g:Nat) (s:Int) (v:Value) (L:List Int) (C:Ch) (w:World) (hT:TreeAt w g C) (hl:C.sts.length≤1000) (hR:Rooted C.sts) (hv:ListAt w v L) (hL:Short L.length) :
 Calls Tryz.prog 51 #[.pointer (some ⟨g,0,none⟩),v,.int .i64 s] w fun e w'=>e=.returned (.bool (allU L.length fun i=>cIn C.sts (L.getD i 0) s))∧w=w':=by
 have HI:=Lib.hid (fun (a:Int)=>inT_any g a s C w hT hl hR)
 obtain ⟨A,cap,rfl,hcap,he⟩:=hv
 unfold Short at hL
 have HE:=Lib.hid he
 have HBAD:=Lib.hid (fun i hi h=>allU_false (n:=L.length) (f:=fun i=>cIn C.sts (L.getD i 0) s) i hi h)
 have HGOOD:=Lib.hid (fun h=>allU_true (n:=L.length) (f:=fun i=>cIn C.sts (L.getD i 0) s) h)
 generalize (allU L.length fun i=>cIn C.sts (L.getD i 0) s)=R at *
 clear he hT hR
 go_enter Tryz.func51,Tryz.ntmps51
 go_wp2_with fail
 go_loopw [11] (fun i wr=>∃ k:Nat,k≤L.length∧i=.int .i64 (k:Int)∧Hid (∀ j,j < k→cIn C.sts (L.getD j 0) s=true)∧wr=w) (fun i _=>L.length - (intOf i).toNat)
 case atStart=>exact ⟨0,Nat.zero_le _,rfl,Lib.hid (fun j hj=>absurd hj (Nat.not_lt_zero _)),rfl⟩
 case round =>
  obtain ⟨k,hk,rfl,HK,rfl⟩:=hrel
  by_cases hlt:k < L.length
  · obtain ⟨b,o,rfl,hbl,hc⟩:=HE.out k _ (List.getElem?_eq_getElem hlt)
    have c0:wr.cell? ⟨b,o+k,none⟩=some (.int .i64 L[k]):=by have:=hc; unfold IntAt at this; rwa [Nat.mul_one] at this
    have hx:L.getD k 0=L[k]:=by simp [List.getD,List.getElem?_eq_getElem hlt]
    have HX:=Lib.hid hx
    generalize L[k]=x at *
    clear hc hx
    cases hi:cIn C.sts x s with
    | false =>
     have HII:=Lib.hid hi
     clear hi
     go_wp2_with fail
     refine (HI.out _).mono ?_
     rintro e w1 ⟨rfl,rfl⟩
     rw [HII.out]
     go_wp2_with fail
     go_ret
     exact ⟨ret_bool (HBAD.out k hlt (by rw [HX.out]; exact HII.out)).symm,rfl⟩
    | true =>
     have HII:=Lib.hid hi
     clear hi
     go_wp2_with fail
     refine (HI.out _).mono ?_
     rintro e w1 ⟨rfl,rfl⟩
     rw [HII.out]
     go_wp2_with fail
     go_roundw
     case rel=>exact ⟨k+1,by omega,by go_num,Lib.hid (fun j hj=>by
      by_cases hjk:j=k
      · subst hjk; rw [HX.out]; exact HII.out
      · exact HK.out j (by omega)),trivial⟩
     case measure=>simp [intOf]; omega
  · obtain rfl:k=L.length:=by omega
    go_wp2_with fail
    go_ret
    exact ⟨ret_bool (HGOOD.out HK.out).symm,rfl⟩
def jnF (S:List St) (L:List Int):Nat→Int→Int
 | 0,_=>-1
 | n+1,p=>if p < 0 then -1 else if (stAt S p).kind=2∧(allU L.length fun i=>cIn S (L.getD i 0) p)=true then p else jnF S L n (cUp S p)
def jnT (S:List St) (L:List Int):Int:=if L.length=0 then -1 else jnF S L ((L.getD 0 0).toNat+1) (cUp S (L.getD 0 0))
theorem jnF_spec (S:List St) (L:List Int):∀ (n:Nat) (p:Int),p < (S.length:Int)→0≤jnF S L n p→isSt S (jnF S L n p)=true∧(stAt S (jnF S L n p)).kind=2∧∀ i,i < L.length→cIn S (L.getD i 0) (jnF S L n p)=true
 | 0,p,_,h=>by simp [jnF] at h
 | n+1,p,hp,h=>by
  rw [jnF] at h ⊢
  by_cases h1:p < 0
  · rw [if_pos h1] at h; omega
  · rw [if_neg h1] at h ⊢
    by_cases h2:(stAt S p).kind=2∧(allU L.length fun i=>cIn S (L.getD i 0) p)=true
    · rw [if_pos h2] at h ⊢
      exact ⟨by unfold isSt; simp; omega,h2.1,fun i hi=>of_allU h2.2 i hi⟩
    · rw [if_neg h2] at h ⊢
      exact jnF_spec S L n _ (cUp_lt S p) h
theorem jnT_spec (S:List St) (L:List Int) (h:0≤jnT S L):isSt S (jnT S L)=true∧(stAt S (jnT S L)).kind=2∧∀ i,i < L.length→cIn S (L.getD i 0) (jnT S L)=true:=by
 unfold jnT at h ⊢
 by_cases hz:L.length=0
 · rw [if_pos hz] at h; omega
 · rw [if_neg hz] at h ⊢
   exact jnF_spec S L _ _ (cUp_lt S _) h
set_option maxHeartbeats 1000000 in
theorem join_any (g:Nat) (v:Value) (L:List Int) (C:Ch) (w:World) (hT:TreeAt w g C) (hl:C.sts.length≤1000) (hR:Rooted C.sts) (hv:ListAt w v L) (hL:Short L.length) :
 Calls Tryz.prog 21 #[.pointer (some ⟨g,0,none⟩),v] w fun e w'=>e=.returned (.int .i64 (jnT C.sts L))∧w=w':=by
 have HP:=Lib.hid (fun (a:Int)=>parent_any g a C w hT hl)
 have HKD:=Lib.hid (fun (a:Int)=>kindT_any g a C w hT hl)
 have HAI:=Lib.hid (fun (s:Int)=>allIn_any g s v L C w hT hl hR hv hL)
 have HRT:=Lib.hid hR
 obtain ⟨A,cap,rfl,hcap,he⟩:=hv
 unfold Short at hL
 have HE:=Lib.hid he
 clear he hT hR
 by_cases hz:L.length=0
 · have hR:jnT C.sts L=-1:=by unfold jnT; rw [if_pos hz]
   have HRR:=Lib.hid hR
   rw [hz] at *
   clear hR
   go_enter Tryz.func21,Tryz.ntmps21
   go_wp2_with fail
   go_ret
   exact ⟨ret_int HRR.out.symm,rfl⟩
 · have hR:jnT C.sts L=jnF C.sts L ((L.getD 0 0).toNat+1) (cUp C.sts (L.getD 0 0)):=by unfold jnT; rw [if_neg hz]
   have hz2:((L.length:Int) == 0)=false:=beq_false_of_ne (by omega)
   obtain ⟨b,o,rfl,hbl,hc⟩:=HE.out 0 _ (List.getElem?_eq_getElem (by omega))
   have hx:L.getD 0 0=L[0]'(by omega):=by simp [List.getD,List.getElem?_eq_getElem (show 0 < L.length by omega)]
   have c0:w.cell? ⟨b,o,none⟩=some (.int .i64 (L.getD 0 0)):=by rw [hx]; have:=hc; unfold IntAt at this; rwa [Nat.zero_mul,Nat.add_zero] at this
   generalize L.getD 0 0=x at *
   have hge:=cUp_ge C.sts x
   have hle:=cUp_le C.sts x
   have hlt:=cUp_lt C.sts x
   have hpos:(cUp C.sts x+1).toNat≤x.toNat+1:=by rcases hle with h | h <;> omega
   have HUP:=Lib.hid (fun q=>cUp_step C.sts q)
   have HGE:=Lib.hid (fun q=>cUp_ge C.sts q)
   have HLT:=Lib.hid (fun q=>cUp_lt C.sts q)
   generalize jnT C.sts L=R at *
   have H0:=Lib.hid hR
   clear hc hx hR hle
   go_enter Tryz.func21,Tryz.ntmps21
   go_wp2_with fail
   refine (HP.out x).mono ?_
   rintro e w1 ⟨rfl,rfl⟩
   rw [HRT.out x]
   generalize cUp C.sts x=u at *
   clear c0
   go_wp2_with fail
   go_loopw [5] (fun p wr=>∃ (n:Nat) (q:Int),-1≤q∧q < (C.sts.length:Int)∧(q+1).toNat≤n∧p=.int .i64 q∧Hid (R=jnF C.sts L n q)∧wr=w) (fun p _=>(intOf p+1).toNat)
   case atStart=>exact ⟨x.toNat+1,u,hge,hlt,hpos,rfl,H0,rfl⟩
   case round =>
    clear H0 hge hlt hpos
    obtain ⟨n,q,hq1,hql,hn,rfl,HR,rfl⟩:=hrel
    by_cases hq:q=-1
    · have hR:=HR.out
      have:jnF C.sts L n q=-1:=by
       cases n with
       | zero=>rfl
       | succ n=>rw [jnF,if_pos (by omega)]
      rw [this] at hR
      have HRR:=Lib.hid hR
      subst hq
      clear hR this
      go_wp2_with fail
      go_ret
      exact ⟨ret_int HRR.out.symm,rfl⟩
    · obtain ⟨m,rfl⟩:∃ m,n=m+1:=⟨n - 1,by omega⟩
      have hR:=HR.out
      rw [jnF,if_neg (by omega)] at hR
      have hq2:(q != -1)=true:=by simpa using hq
      have hst:=HUP.out q (by omega)
      have hg2:=HGE.out q
      have hl2:=HLT.out q
      have hk:kindT C.sts q=(stAt C.sts q).kind:=by unfold kindT; rw [if_pos (by unfold isSt; simp; omega)]
      have HKK:=Lib.hid hk
      have HN1:=Lib.hid (fun h=>hR.trans (if_neg h))
      have HY1:=Lib.hid (fun h=>hR.trans (if_pos h))
      generalize (stAt C.sts q).kind=K at *
      clear hk hR
      by_cases hK:K=2
      · have hK2:(K == 2)=true:=by simpa using hK
        cases ha:(allU L.length fun i=>cIn C.sts (L.getD i 0) q) with
        | true =>
         have HAA:=Lib.hid ha
         have HRR:=Lib.hid (HY1.out ⟨hK,ha⟩)
         clear ha hK
         go_wp2_with fail
         refine (HKD.out q).mono ?_
         rintro e w2 ⟨rfl,rfl⟩
         rw [HKK.out]
         go_wp2_with fail
         refine (HAI.out q).mono ?_
         rintro e w2 ⟨rfl,rfl⟩
         rw [HAA.out]
         go_wp2_with fail
         go_ret
         exact ⟨ret_int HRR.out.symm,rfl⟩
        | false =>
         have HAA:=Lib.hid ha
         have HRR:=Lib.hid (HN1.out (fun h=>by rw [ha] at h; exact absurd h.2 (by simp)))
         clear ha hK
         go_wp2_with fail
         refine (HKD.out q).mono ?_
         rintro e w2 ⟨rfl,rfl⟩
         rw [HKK.out]
         go_wp2_with fail
         refine (HAI.out q).mono ?_
         rintro e w2 ⟨rfl,rfl⟩
         rw [HAA.out]
         go_wp2_with fail
         refine (HP.out q).mono ?_
         rintro e w2 ⟨rfl,rfl⟩
         rw [HRT.out q]
         generalize cUp C.sts q=u2 at *
         go_wp2_with fail
         go_roundw
         case rel=>exact ⟨m,u2,hg2,hl2,by omega,rfl,HRR,trivial⟩
         case measure=>simp [intOf]; omega
      · have hK2:(K == 2)=false:=by simpa using hK
        have HRR:=Lib.hid (HN1.out (fun h=>hK h.1))
        clear hK
        go_wp2_with fail
        refine (HKD.out q).mono ?_
        rintro e w2 ⟨rfl,rfl⟩
        rw [HKK.out]
        go_wp2_with fail
        refine (HP.out q).mono ?_
        rintro e w2 ⟨rfl,rfl⟩
        rw [HRT.out q]
        generalize cUp C.sts q=u2 at *
        go_wp2_with fail
        go_roundw
        case rel=>exact ⟨m,u2,hg2,hl2,by omega,rfl,HRR,trivial⟩
        case measure=>simp [intOf]; omega

theorem OwnCh.lower {B B':Nat} {w:World} {vs vt:Value} {C:Ch} (h:OwnCh B w vs vt C) (hB:B'≤B):OwnCh B' w vs vt C:=by
 obtain ⟨rs,ts,h1,h2,h3,h4⟩:=h
 exact ⟨rs,ts,h1,h2,⟨h3.1.lower hB,fun r hr=>⟨RowAt.lower (h3.2 r hr).1 hB,RowAt.lower (h3.2 r hr).2.1 hB,RowAt.lower (h3.2 r hr).2.2 hB⟩⟩,h4.1.lower hB,fun r hr=>⟨RowAt.lower (h4.2 r hr).1 hB,RowAt.lower (h4.2 r hr).2 hB⟩⟩
theorem OwnCh.apart {B g:Nat} {w:World} {vs vt:Value} {C:Ch} {t:Nat} {cs:Array Value} (h:OwnCh B w vs vt C) (hg:Blk w g t cs) (h1:3 ≠ t) (h2:104 ≠ t) (h3:63 ≠ t) (h4:66 ≠ t) (j:Nat) (u:Value):OwnCh B (w.setCell ⟨g,j,none⟩ u) vs vt C:=by
 obtain ⟨rs,ts,q1,q2,q3,q4⟩:=h
 exact ⟨rs,ts,q1,q2,⟨q3.1.apart hg h3 j u,fun r hr=>(q3.2 r hr).apart hg h1 h2 j u⟩,q4.1.apart hg h4 j u,fun r hr=>(q4.2 r hr).apart hg h1 h2 j u⟩
theorem ChHas.slices {w:World} {vs vt:Value} {C:Ch} (h:ChHas w vs vt C):∃ (sA:Option Addr) (scap:Nat) (tA:Option Addr) (tcap:Nat),vs=.slice sA C.sts.length scap∧vt=.slice tA C.trs.length tcap:=by
 obtain ⟨sA,scap,h1,_⟩:=RowsAt.slice h.1
 obtain ⟨tA,tcap,h2,_⟩:=RowsAt.slice h.2
 exact ⟨sA,scap,tA,tcap,h1,h2⟩
theorem copyCh_few (vs vt:Value) (C:Ch) (w:World) (hC:ChHas w vs vt C) (hF:fewB C=true):Calls Tryz.prog 30 #[.agg #[.int .i64 C.vars,vs,vt]] w (CcPost C w):=by
 obtain ⟨f1,f2,_⟩:=few_parts hF
 exact copyCh_any vs vt C w hC (by omega) (by omega) (fun k hk=>few_sms hF hk) (fun k hk=>few_smt hF hk)
set_option maxHeartbeats 1000000 in
theorem chartT_any (g:Nat) (C:Ch) (w:World) (hT:TreeAt w g C) (hF:fewB C=true):Calls Tryz.prog 81 #[.pointer (some ⟨g,0,none⟩)] w (CcPost C w):=by
 obtain ⟨vs,vt,hX,hC⟩:=hT
 obtain ⟨sA,scap,tA,tcap,rfl,rfl⟩:=hC.slices
 have hgw:=hX.lt
 obtain ⟨⟨x0,x1,x2⟩,-⟩:=(hX.alloc (chBox 0 (.slice none 0 0) (.slice none 0 0))).facts3
 have HY:=Lib.hid (Blk.new w 25 #[.int .i64 0,.slice none 0 0,.slice none 0 0])
 have HC:=Lib.hid (copyCh_few _ _ C _ (hC.below (below_box w (chBox 0 (.slice none 0 0) (.slice none 0 0)))) hF)
 have hn1:¬ g=w.heap.size:=by omega
 clear hX hC
 go_enter Tryz.func81,Tryz.ntmps81
 go_wp2_with fail
 refine HC.out.mono ?_
 rintro e w1 ⟨hb1,us,ut,rfl,ho1⟩
 obtain ⟨uA,ucap,rA,rcap,rfl,rfl⟩:=ho1.has.slices
 have HY1:=Lib.hid (HY.out.below hb1 HY.out.lt)
 have HB1:=Lib.hid (below_boxed hb1)
 have HO1:=Lib.hid (ho1.lower (B':=w.heap.size) (by simp))
 obtain ⟨⟨y0,y1,y2⟩,z0,z1,z2⟩:=HY1.out.facts3
 clear hb1 ho1 x0 x1 x2
 go_wp2_with fail
 refine bodyPost_ret (results_own rfl _ _ _ rfl (load_ch (((HY1.out.set_ 0 _).set_ 1 _).set_ 2 _))) rfl ?_
 have q1:=HY1.out.set_ 0 (.int .i64 C.vars)
 have q2:=q1.set_ 1 (.slice uA C.sts.length ucap)
 exact ⟨((HB1.out.setCell (p:=⟨w.heap.size,0,none⟩) (Nat.le_refl _) _).setCell (p:=⟨w.heap.size,1,none⟩) (Nat.le_refl _) _).setCell (p:=⟨w.heap.size,2,none⟩) (Nat.le_refl _) _,_,_,rfl,
  ((HO1.out.apart HY1.out (by decide) (by decide) (by decide) (by decide) 0 (.int .i64 C.vars)).apart q1 (by decide) (by decide) (by decide) (by decide) 1 (.slice uA C.sts.length ucap)).apart q2 (by decide) (by decide) (by decide) (by decide) 2 (.slice rA C.trs.length rcap)⟩
def NPost (C:Ch) (w:World) (e:Ending) (w':World):Prop :=
 Below w.heap.size w w'∧match chk hasTB C with
  | .ok=>∃ g,e=.returned (.tuple #[.pointer (some ⟨g,0,none⟩),.nilIface])∧w.heap.size≤g∧TreeAt w' g C
  | .large=>e=.returned (.tuple #[.pointer none,.iface 82 (.int .i64 3)])
  | .spot k c=>∃ g,e=.returned (.tuple #[.pointer none,.iface 106 (.pointer (some ⟨g,0,none⟩))])∧w.heap.size≤g∧Blk w' g 108 #[.int .i64 k,.int .i64 c]
set_option maxHeartbeats 1000000 in
set_option maxRecDepth 100000 in
theorem new_any (vs vt:Value) (C:Ch) (w:World) (hL:Laid w) (hC:ChHas w vs vt C) (hF:fewB C=true):Calls Tryz.prog 8 #[.agg #[.int .i64 C.vars,vs,vt]] w (NPost C w):=by
 obtain ⟨sA,scap,tA,tcap,rfl,rfl⟩:=hC.slices
 have HB0:=Lib.hid (below_box w (chBox C.vars (.slice sA C.sts.length scap) (.slice tA C.trs.length tcap)))
 have HCK:=Lib.hid (chk_any _ _ C _ (hL.after HB0.out) (hC.below HB0.out) hF)
 have HC:=Lib.hid hC
 have hnn:=neq_nil_nil
 have hnc:=fun p W=>neq_code_any p W
 have hns:=fun p W=>neq_spot_any p W
 clear hL hC
 cases hok:chk hasTB C with
 | ok =>
  have HK:=Lib.hid hok
  rw [hok] at HCK
  clear hok
  go_enter Tryz.func8,Tryz.ntmps8
  go_wp2_with fail
  refine HCK.out.mono ?_
  rintro e w1 ⟨hb1,he⟩
  have he':e=.returned .nilIface:=he
  subst he'
  obtain ⟨x0,x1,x2⟩:=box_later hb1
  have HB1:=Lib.hid (below_boxed hb1)
  clear hb1 he
  go_wp2_with fail
  refine (copyCh_few _ _ C _ (HC.out.below HB1.out) hF).mono ?_
  rintro e w2 ⟨hb2,us,ut,rfl,ho2⟩
  obtain ⟨uA,ucap,rA,rcap,rfl,rfl⟩:=ho2.has.slices
  have HB2:=Lib.hid (HB1.out.trans (hb2.mono HB1.out.size))
  have HO2:=Lib.hid ho2
  clear hb2 ho2 x0 x1 x2
  go_wp2_with fail
  go_ret2
  refine ⟨HB2.out.alloc HB2.out.size _,?_⟩
  rw [HK.out]
  exact ⟨w2.heap.size,rfl,HB2.out.size,_,_,Blk.new w2 70 _,HO2.out.has.below (below_box w2 _)⟩
 | large =>
  have HK:=Lib.hid hok
  rw [hok] at HCK
  clear hok
  go_enter Tryz.func8,Tryz.ntmps8
  go_wp2_with fail
  refine HCK.out.mono ?_
  rintro e w1 ⟨hb1,he⟩
  have he':e=.returned (.iface 82 (.int .i64 3)):=he
  subst he'
  have HB1:=Lib.hid (below_boxed hb1)
  clear hb1 he
  go_wp2_with fail
  go_ret2
  refine ⟨HB1.out,?_⟩
  rw [HK.out]
  exact rfl
 | spot k c =>
  have HK:=Lib.hid hok
  rw [hok] at HCK
  clear hok
  go_enter Tryz.func8,Tryz.ntmps8
  go_wp2_with fail
  refine HCK.out.mono ?_
  rintro e w1 ⟨hb1,g,rfl,hg,hG⟩
  have HB1:=Lib.hid (below_boxed hb1)
  have HG:=Lib.hid hG
  have hg1:w.heap.size+1≤g:=by simpa using hg
  have hg':w.heap.size≤g:=by omega
  clear hg hg1
  clear hb1 hG
  go_wp2_with fail
  go_ret2
  refine ⟨HB1.out,?_⟩
  rw [HK.out]
  exact ⟨g,rfl,hg',HG.out⟩
end Go.Proofs.YtmhkpjcdkjnlnaaGreatDoor
