/- The contract of the document's Good: what holds where it is told. -/
import Derived.Test.YtfgkcjmeiabdjaaGreatDoorFSx
import Derived.Test.YtfgkcjmeiabdjaaGreatDoorFSrr
import Derived.Test.YtfgkcjmeiabdjaaGreatDoorFImem
namespace Go.Proofs.YtfgkcjmeiabdjaaGreatDoor
open Go.ChangeShapes Go.WideShapes Go.ChangeAt Go.RowKit
set_option linter.unusedVariables false

def GoodAt (S:List St) (H:List Nat) (s:Nat):Prop:=histAt H (s:Int) ≠ 0→s < S.length∧histB (stAt S (s:Int)).kind=true∧∀ x ∈ stD S H (s:Int),isSt S x=true∧histB (stAt S x).kind=false
theorem stD_set {S:List St} {H:List Nat} {s:Int} (h:histAt H s ≠ 0):stD S H s=membU (bitN (histAt H s)) 32:=by unfold stD; rw [if_pos h]
theorem membU_cut (S:List St) (P:Nat→Bool):∀ m:Nat,S.length≤m→(∀ x ∈ membU P m,isSt S x=true)→membU P m=memb S P
  | m,h,hx=>by
    by_cases he:m=S.length
    · rw [he]; rfl
    · obtain ⟨q,rfl⟩:∃ q,m=q+1:=⟨m - 1,by omega⟩
      rw [membU_succ] at hx ⊢
      have hq:¬ P q=true:=fun hP=>by
        have:=isSt_iff.1 (hx (q:Int) (by rw [if_pos hP]; simp))
        omega
      rw [if_neg hq,List.append_nil] at hx ⊢
      exact membU_cut S P q (by omega) hx
theorem good_std {S:List St} {H:List Nat} (hT:Tame S) (hG:∀ s,s < H.length→GoodAt S H s):GoodH S H∧∀ s,isSt S s=true→histB (stAt S s).kind=true→stD S H s=ofS S H s:=by
  have key:∀ s,isSt S s=true→histB (stAt S s).kind=true→stD S H s=ofS S H s∧∀ x ∈ ofS S H s,isSt S x=true∧histB (stAt S x).kind=false:=by
    intro s hs hh
    obtain ⟨k,rfl,hk⟩:=isSt_nat hs
    have ho:ofS S H (k:Int)=if histAt H (k:Int) ≠ 0 then memb S (bitN (histAt H (k:Int))) else (stAt S (k:Int)).ini:=by
      unfold ofS
      rw [if_neg (by rw [hs]; simp),if_neg (by rw [hh]; simp)]
    by_cases hz:histAt H (k:Int) ≠ 0
    · have hkl:k < H.length:=by
        rcases Nat.lt_or_ge k H.length with h | h
        · exact h
        · exact absurd (by unfold histAt; simp [List.getD,List.getElem?_eq_none h]) hz
      have hx:=(hG k hkl hz).2.2
      have hcut:=membU_cut S (bitN (histAt H (k:Int))) 32 (by have:=hT.len; omega) (fun x h=>(hx x (by rw [stD_set hz]; exact h)).1)
      have he:stD S H (k:Int)=ofS S H (k:Int):=by rw [stD_set hz,ho,if_pos hz,hcut]
      exact ⟨he,fun x h=>hx x (by rw [he]; exact h)⟩
    · have he:stD S H (k:Int)=ofS S H (k:Int):=by unfold stD; rw [if_neg hz,ho,if_neg hz]
      refine ⟨he,fun x h=>?_⟩
      obtain ⟨t,h1,h2,h3,_⟩:=hT.ini5 _ hs hh
      rw [ho,if_neg hz,h1] at h
      obtain rfl:=List.mem_singleton.1 h
      exact ⟨h2,h3⟩
  exact ⟨fun s hs hh x hx=>(key s hs hh).2 x hx,fun s hs hh=>(key s hs hh).1⟩
end Go.Proofs.YtfgkcjmeiabdjaaGreatDoor
/- The first step, plainly: the document's way and the program's come to the same. No program in this text. -/
namespace Go.Proofs.YtfgkcjmeiabdjaaGreatDoor
set_option linter.unusedVariables false

theorem hist_zero (n:Nat) (s:Int):histAt (List.replicate n 0) s=0:=by
  unfold histAt
  rw [List.getD_eq_getElem?_getD]
  rcases Nat.lt_or_ge s.toNat n with h | h
  · rw [List.getElem?_replicate_of_lt h]; rfl
  · rw [List.getElem?_eq_none (by rw [List.length_replicate]; exact h)]; rfl
theorem good_zero (S:List St) (n:Nat):∀ s,s < (List.replicate n 0).length→GoodAt S (List.replicate n 0) s:=fun s _ h=>absurd (hist_zero n s) h
def beg (C:Ch):Se:=⟨fun _=>false,List.replicate C.sts.length 0,List.replicate C.vars.toNat 0,[],1,[]⟩
def fstS (C:Ch):Se :=
  let X1:=enS C.sts 0 (beg C)
  entU C.sts (fun k=>(pSet C.sts X1.hist 0 (stAt C.sts 0).ini).a k && !X1.a k) C.sts.length X1
def fstD (C:Ch):Se :=
  let X1:=entLate C.sts (bitN 1) C.sts.length (beg C)
  entLate C.sts (bitN (bset (dSet C.sts X1.hist 0 (stAt C.sts 0).ini) C.sts.length)) C.sts.length X1
theorem bit_one {k:Nat} (hk:0 < k):bitN 1 k=false:=by
  unfold bitN
  have h:1 < 2 ^ k:=Nat.one_lt_two_pow (by omega)
  rw [Nat.div_eq_of_lt h]
  rfl
theorem fst_one {C:Ch} (hT:Tame C.sts):entLate C.sts (bitN 1) C.sts.length (beg C)=enS C.sts 0 (beg C):=by
  rw [late_same]
  obtain ⟨m,hm⟩:∃ m,C.sts.length=m+1:=⟨C.sts.length - 1,by have:=hT.pos; omega⟩
  rw [hm]
  exact entU_one C.sts (by show (bitN 1 0 && !false)=true; decide) (beg C) m fun k h1 h2=>by rw [bit_one h1]; rfl
theorem fst_same {C:Ch} (hT:Tame C.sts):fstD C=fstS C:=by
  unfold fstD fstS
  simp only
  rw [fst_one hT,late_same]
  have hh:(enS C.sts 0 (beg C)).hist=List.replicate C.sts.length 0:=by rw [enS_hist]; rfl
  have hg:=(good_std hT (good_zero C.sts C.sts.length)).1
  rw [hh,set_same hT hg]
  exact entU_congr C.sts _ _ fun k hk=>by rw [bset_bitN k hk]
theorem beg_lim {C:Ch} (hv:0≤C.vars∧C.vars≤8):Lim 0 (beg C):=by
  refine ⟨?_,fun x hx=>?_,?_,?_⟩
  · show (List.replicate C.vars.toNat (0:Int)).length≤1000
    rw [List.length_replicate]
    omega
  · have hx:x ∈ List.replicate C.vars.toNat (0:Int):=hx
    rw [List.eq_of_mem_replicate hx]
    exact ⟨by decide,by decide⟩
  · show ([]:List Ou).length≤_
    simp
  · show ([]:List Int).length≤_
    simp
end Go.Proofs.YtfgkcjmeiabdjaaGreatDoor
