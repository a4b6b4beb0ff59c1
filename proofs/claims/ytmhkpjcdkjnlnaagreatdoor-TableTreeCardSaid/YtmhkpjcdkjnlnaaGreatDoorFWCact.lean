/- The contract of chart's hasType: whether a text parses, and has that type. -/
import Derived.Test.YtmhkpjcdkjnlnaaGreatDoorFWEof
import Derived.Test.YtmhkpjcdkjnlnaaGreatDoorFWCgen
import Derived.Test.YtmhkpjcdkjnlnaaGreatDoorFWCs
namespace Go.Proofs.YtmhkpjcdkjnlnaaGreatDoor
open Go.ChangeShapes Go.WideShapes Go.ChangeAt Go.RowKit
set_option linter.unusedVariables false

def hasTB (s:ByteArray) (vars want:Int):Bool :=
 match parseAns s.data.toList with
 | .toks o=>(match ans ⟨true,[],vars⟩ o with
  | .ok k _=>k == want
  | .bad _=>false)
 | _=>false
theorem eql_nil_nil (w:World):(binOp .eql 30 .nilIface .nilIface).run Tryz.prog w=.ok (.bool true) w:=by kernel_rfl
theorem eql_code_nil' (p:Value) (w:World):(binOp .eql 30 (.iface 82 p) .nilIface).run Tryz.prog w=.ok (.bool false) w:=by kernel_rfl
set_option maxHeartbeats 1000000 in
theorem hasType_any (s:ByteArray) (vars want:Int) (w:World) (hL:Laid w) (hs:s.size≤1000000) :
 Calls Tryz.prog 103 #[.string s,.int .i64 vars,.int .i64 want] w fun e w'=>e=.returned (.bool (hasTB s vars want))∧Below w.heap.size w w':=by
 have HP:=Lib.hid (parse_any s w hL hs)
 have HPT:=Lib.hid (fun o=>parse_toks (s:=s.data.toList) (o:=o))
 have hR:hasTB s vars want=hasTB s vars want:=rfl
 conv at hR=>rhs; unfold hasTB
 generalize hasTB s vars want=R at *
 generalize parseAns s.data.toList=a at *
 have hnn:=neq_nil_nil
 have hnc:=fun p W=>neq_code_any p W
 have hns:=fun p W=>neq_spot_any p W
 have hen:=eql_nil_nil
 have hec:=fun p W=>eql_code_nil' p W
 cases a with
 | toks o =>
  have HR:=Lib.hid hR
  clear hR hL
  go_enter Tryz.func103,Tryz.ntmps103
  go_wp2_with fail
  refine HP.out.mono ?_
  rintro e w1 ⟨hb1,v,rfl,hown⟩
  obtain ⟨ho100,hsm,_⟩:=HPT.out o rfl
  have HT:=Lib.hid (type_any v o vars w1 (ToksAt.of_own hown) (by omega) hsm)
  have HB1:=Lib.hid hb1
  clear hb1 hown hsm ho100
  go_wp2_with fail
  refine HT.out.mono ?_
  rintro e w2 ⟨hb2,he⟩
  have HB2:=Lib.hid (HB1.out.trans (hb2.mono HB1.out.size))
  generalize ans ⟨true,[],vars⟩ o=b at *
  clear hb2
  cases b with
  | ok k n =>
   have he':e=.returned (.tuple #[.int .i64 k,.nilIface]):=he
   subst he'
   clear he
   go_wp2_with fail
   go_ret
   exact ⟨ret_bool (by rw [HR.out]),HB2.out⟩
  | bad c =>
   have he':e=.returned (.tuple #[.int .i64 0,.iface 82 (.int .i64 c)]):=he
   subst he'
   clear he
   go_wp2_with fail
   go_ret
   exact ⟨ret_bool (by rw [HR.out]),HB2.out⟩
 | form k =>
  have HR:=Lib.hid hR
  clear hR hL
  go_enter Tryz.func103,Tryz.ntmps103
  go_wp2_with fail
  refine HP.out.mono ?_
  rintro e w1 ⟨hb1,g,rfl,hg,hB⟩
  have HB1:=Lib.hid hb1
  clear hb1 hg hB
  go_wp2_with fail
  go_ret
  exact ⟨ret_bool (by rw [HR.out]),HB1.out⟩
 | large =>
  have HR:=Lib.hid hR
  clear hR hL
  go_enter Tryz.func103,Tryz.ntmps103
  go_wp2_with fail
  refine HP.out.mono ?_
  rintro e w1 ⟨hb1,he⟩
  have he':e=.returned (.tuple #[.slice none 0 0,.iface 82 (.int .i64 3)]):=he
  subst he'
  have HB1:=Lib.hid hb1
  clear hb1 he
  go_wp2_with fail
  go_ret
  exact ⟨ret_bool (by rw [HR.out]),HB1.out⟩

abbrev acBox (a:Ac):Obj:=.cells #[.int .i64 a.kind,.int .i64 a.n,.int .i64 a.m,.string a.expr] 104
abbrev acVal (a:Ac):Value:=.agg #[.int .i64 a.kind,.int .i64 a.n,.int .i64 a.m,.string a.expr]
theorem size_toList (s:ByteArray):s.toList.isEmpty=decide (s.size=0):=by
 rw [Lib.toList_data,Lib.size_eq]
 cases s.data.toList <;> simp
set_option maxHeartbeats 2000000 in
theorem act_any (a:Ac) (vars:Int) (w:World) (hL:Laid w) (hs:a.expr.size≤1000000) (hv:-1000≤vars) (hv2:vars≤1000) :
 Calls Tryz.prog 144 #[acVal a,.int .i64 vars] w fun e w'=>e=.returned (.bool (actB hasTB vars a))∧Below w.heap.size w w':=by
 have HB:=Lib.hid (below_box w (acBox a))
 have HT:=Lib.hid (hasType_any a.expr vars 1 _ (hL.after HB.out) hs)
 have hR:actB hasTB vars a=actB hasTB vars a:=rfl
 conv at hR=>rhs; unfold actB
 generalize actB hasTB vars a=R at *
 generalize hasTB a.expr vars 1=ty at *
 obtain ⟨k,n,m,ex⟩:=a
 simp only at hR HT HB ⊢
 clear hL
 have hk:k=1 ∨ k=2 ∨ k=3 ∨ k=4 ∨ k=5 ∨ (k ≠ 1∧k ≠ 2∧k ≠ 3∧k ≠ 4∧k ≠ 5):=by omega
 rcases hk with rfl | rfl | rfl | rfl | rfl | ⟨k1,k2,k3,k4,k5⟩
 · rw [if_pos rfl] at hR
   have HR:=Lib.hid hR
   clear hR
   cases h1:fromB n 0 (vars - 1) with
   | false =>
    have H1:=Lib.hid h1
    clear h1
    go_enter Tryz.func144,Tryz.ntmps144
    go_wp2_with fail
    refine (isFrom_any _ _ _ _).mono ?_
    rintro e w' ⟨rfl,rfl⟩
    rw [H1.out]
    go_wp2_with fail
    go_ret
    exact ⟨ret_bool (by rw [HR.out]; simp [H1.out]),HB.out⟩
   | true =>
    have H1:=Lib.hid h1
    clear h1
    by_cases h2:m=0
    · have b2:(m == 0)=true:=by simpa using h2
      have H2:=Lib.hid h2
      clear h2
      go_enter Tryz.func144,Tryz.ntmps144
      go_wp2_with fail
      refine (isFrom_any _ _ _ _).mono ?_
      rintro e w' ⟨rfl,rfl⟩
      rw [H1.out]
      go_wp2_with fail
      refine HT.out.mono ?_
      rintro e w1 ⟨rfl,hb1⟩
      have HB1:=Lib.hid (below_boxed hb1)
      clear hb1
      go_wp2_with fail
      go_ret
      exact ⟨ret_bool (by rw [HR.out]; simp [H1.out,H2.out]),HB1.out⟩
    · have b2:(m == 0)=false:=by simpa using h2
      have H2:=Lib.hid h2
      clear h2
      go_enter Tryz.func144,Tryz.ntmps144
      go_wp2_with fail
      refine (isFrom_any _ _ _ _).mono ?_
      rintro e w' ⟨rfl,rfl⟩
      rw [H1.out]
      go_wp2_with fail
      go_ret
      exact ⟨ret_bool (by rw [HR.out]; simp [H1.out,H2.out]),HB.out⟩
 · rw [if_neg (by decide),if_pos (.inl rfl)] at hR
   have HR:=Lib.hid hR
   clear hR
   cases h1:fromB n 1 1000 with
   | false =>
    have H1:=Lib.hid h1
    clear h1
    go_enter Tryz.func144,Tryz.ntmps144
    go_wp2_with fail
    refine (isFrom_any _ _ _ _).mono ?_
    rintro e w' ⟨rfl,rfl⟩
    rw [H1.out]
    go_wp2_with fail
    go_ret
    exact ⟨ret_bool (by rw [HR.out]; simp [H1.out]),HB.out⟩
   | true =>
    have H1:=Lib.hid h1
    clear h1
    by_cases h2:m=0
    · have b2:(m == 0)=true:=by simpa using h2
      have H2:=Lib.hid h2
      clear h2
      go_enter Tryz.func144,Tryz.ntmps144
      go_wp2_with fail
      refine (isFrom_any _ _ _ _).mono ?_
      rintro e w' ⟨rfl,rfl⟩
      rw [H1.out]
      go_wp2_with fail
      go_ret
      exact ⟨ret_bool (by rw [HR.out,H1.out,← size_toList]; simp [H2.out]),HB.out⟩
    · have b2:(m == 0)=false:=by simpa using h2
      have H2:=Lib.hid h2
      clear h2
      go_enter Tryz.func144,Tryz.ntmps144
      go_wp2_with fail
      refine (isFrom_any _ _ _ _).mono ?_
      rintro e w' ⟨rfl,rfl⟩
      rw [H1.out]
      go_wp2_with fail
      go_ret
      exact ⟨ret_bool (by rw [HR.out]; simp [H1.out,H2.out]),HB.out⟩
 · rw [if_neg (by decide),if_neg (by decide),if_pos rfl] at hR
   have HR:=Lib.hid hR
   clear hR
   cases h1:fromB n 1 1000 with
   | false =>
    have H1:=Lib.hid h1
    clear h1
    go_enter Tryz.func144,Tryz.ntmps144
    go_wp2_with fail
    refine (isFrom_any _ _ _ _).mono ?_
    rintro e w' ⟨rfl,rfl⟩
    rw [H1.out]
    go_wp2_with fail
    go_ret
    exact ⟨ret_bool (by rw [HR.out]; simp [H1.out]),HB.out⟩
   | true =>
    have H1:=Lib.hid h1
    clear h1
    cases h2:fromB m 0 1000 with
    | false =>
     have H2:=Lib.hid h2
     clear h2
     go_enter Tryz.func144,Tryz.ntmps144
     go_wp2_with fail
     refine (isFrom_any _ _ _ _).mono ?_
     rintro e w' ⟨rfl,rfl⟩
     rw [H1.out]
     go_wp2_with fail
     refine (isFrom_any _ _ _ _).mono ?_
     rintro e w' ⟨rfl,rfl⟩
     rw [H2.out]
     go_wp2_with fail
     go_ret
     exact ⟨ret_bool (by rw [HR.out]; simp [H1.out,H2.out]),HB.out⟩
    | true =>
     have H2:=Lib.hid h2
     clear h2
     go_enter Tryz.func144,Tryz.ntmps144
     go_wp2_with fail
     refine (isFrom_any _ _ _ _).mono ?_
     rintro e w' ⟨rfl,rfl⟩
     rw [H1.out]
     go_wp2_with fail
     refine (isFrom_any _ _ _ _).mono ?_
     rintro e w' ⟨rfl,rfl⟩
     rw [H2.out]
     go_wp2_with fail
     refine HT.out.mono ?_
     rintro e w1 ⟨rfl,hb1⟩
     have HB1:=Lib.hid (below_boxed hb1)
     clear hb1
     go_wp2_with fail
     go_ret
     exact ⟨ret_bool (by rw [HR.out]; simp [H1.out,H2.out]),HB1.out⟩
 · rw [if_neg (by decide),if_pos (.inr rfl)] at hR
   have HR:=Lib.hid hR
   clear hR
   cases h1:fromB n 1 1000 with
   | false =>
    have H1:=Lib.hid h1
    clear h1
    go_enter Tryz.func144,Tryz.ntmps144
    go_wp2_with fail
    refine (isFrom_any _ _ _ _).mono ?_
    rintro e w' ⟨rfl,rfl⟩
    rw [H1.out]
    go_wp2_with fail
    go_ret
    exact ⟨ret_bool (by rw [HR.out]; simp [H1.out]),HB.out⟩
   | true =>
    have H1:=Lib.hid h1
    clear h1
    by_cases h2:m=0
    · have b2:(m == 0)=true:=by simpa using h2
      have H2:=Lib.hid h2
      clear h2
      go_enter Tryz.func144,Tryz.ntmps144
      go_wp2_with fail
      refine (isFrom_any _ _ _ _).mono ?_
      rintro e w' ⟨rfl,rfl⟩
      rw [H1.out]
      go_wp2_with fail
      go_ret
      exact ⟨ret_bool (by rw [HR.out,H1.out,← size_toList]; simp [H2.out]),HB.out⟩
    · have b2:(m == 0)=false:=by simpa using h2
      have H2:=Lib.hid h2
      clear h2
      go_enter Tryz.func144,Tryz.ntmps144
      go_wp2_with fail
      refine (isFrom_any _ _ _ _).mono ?_
      rintro e w' ⟨rfl,rfl⟩
      rw [H1.out]
      go_wp2_with fail
      go_ret
      exact ⟨ret_bool (by rw [HR.out]; simp [H1.out,H2.out]),HB.out⟩
 · rw [if_neg (by decide),if_neg (by decide),if_neg (by decide),if_pos rfl] at hR
   have HR:=Lib.hid hR
   clear hR
   by_cases h1:n=0
   · have b1:(n == 0)=true:=by simpa using h1
     have H1:=Lib.hid h1
     clear h1
     by_cases h2:m=0
     · have b2:(m == 0)=true:=by simpa using h2
       have H2:=Lib.hid h2
       clear h2
       go_enter Tryz.func144,Tryz.ntmps144
       go_wp2_with fail
       refine HT.out.mono ?_
       rintro e w1 ⟨rfl,hb1⟩
       have HB1:=Lib.hid (below_boxed hb1)
       clear hb1
       go_wp2_with fail
       go_ret
       exact ⟨ret_bool (by rw [HR.out]; simp [H1.out,H2.out]),HB1.out⟩
     · have b2:(m == 0)=false:=by simpa using h2
       have H2:=Lib.hid h2
       clear h2
       go_enter Tryz.func144,Tryz.ntmps144
       go_wp2_with fail
       go_ret
       exact ⟨ret_bool (by rw [HR.out]; simp [H1.out,H2.out]),HB.out⟩
   · have b1:(n == 0)=false:=by simpa using h1
     have H1:=Lib.hid h1
     clear h1
     go_enter Tryz.func144,Tryz.ntmps144
     go_wp2_with fail
     go_ret
     exact ⟨ret_bool (by rw [HR.out]; simp [H1.out]),HB.out⟩
 · rw [if_neg k1,if_neg (by simp [k2,k4]),if_neg k3,if_neg k5] at hR
   have HR:=Lib.hid hR
   have b1:(k == 1)=false:=by simpa using k1
   have b2:(k == 2)=false:=by simpa using k2
   have b3:(k == 3)=false:=by simpa using k3
   have b4:(k == 4)=false:=by simpa using k4
   have b5:(k == 5)=false:=by simpa using k5
   clear hR k1 k2 k3 k4 k5
   go_enter Tryz.func144,Tryz.ntmps144
   go_wp2_with fail
   go_ret
   exact ⟨ret_bool HR.out.symm,HB.out⟩

def ShortActs (l:List Ac):Prop:=∀ (i:Nat),i < l.length→(l.getD i noAc).expr.size≤1000000
set_option maxHeartbeats 2000000 in
theorem acts_any (v:Value) (l:List Ac) (vars:Int) (w:World) (hL:Laid w) (hA:ActsAt w v l) (hl:Short l.length) (hs:ShortActs l) (hv:-1000≤vars) (hv2:vars≤1000) :
 Calls Tryz.prog 104 #[v,.int .i64 vars] w fun e w'=>e=.returned (.bool (actsB hasTB vars l))∧Below w.heap.size w w':=by
 unfold Short at hl
 obtain ⟨A,cap,rfl,hcap,hel⟩:=hA
 by_cases h5:5 < l.length
 · have hd:decide ((5:Int) < (l.length:Int))=true:=by simp; omega
   have hd2:decide (5 < l.length)=true:=by simpa using h5
   have HR:Hid (actsB hasTB vars l=false):=Lib.hid (by unfold actsB; rw [show decide (l.length≤5)=false by simp; omega]; rfl)
   clear hel
   go_enter Tryz.func104,Tryz.ntmps104
   go_wp2_with fail
   go_ret
   exact ⟨ret_bool HR.out.symm,Below.refl _ _⟩
 · have hd:decide ((5:Int) < (l.length:Int))=false:=by simp; omega
   have hd2:decide (5 < l.length)=false:=by simpa using h5
   have hl5:l.length≤5:=by omega
   have HE:=Lib.hid hel
   have HACT:=Lib.hid (fun (W:World) (a:Ac) (hb:Below w.heap.size w W) (h:a.expr.size≤1000000)=>act_any a vars W (hL.after hb) h hv hv2)
   have HS:=Lib.hid hs
   have HRT:Hid ((∀ i,i < l.length→actB hasTB vars (l.getD i noAc)=true)→actsB hasTB vars l=true):=Lib.hid (fun h=>by unfold actsB; rw [show decide (l.length≤5)=true by simp; omega,allU_true h]; rfl)
   have HRF:Hid (∀ i,i < l.length→actB hasTB vars (l.getD i noAc)=false→actsB hasTB vars l=false):=Lib.hid (fun i hi h=>by unfold actsB; rw [allU_false i hi h]; simp)
   clear hel h5 hL hs
   go_enter Tryz.func104,Tryz.ntmps104
   go_wp2_with fail
   go_loopw [12] (fun i wr=>∃ k:Nat,k≤l.length∧i=.int .i64 (k:Int)∧Hid (∀ j,j < k→actB hasTB vars (l.getD j noAc)=true)∧Below w.heap.size w wr) (fun i _=>l.length - (intOf i).toNat)
   case atStart=>exact ⟨0,Nat.zero_le _,rfl,Lib.hid (fun j hj=>by omega),Below.refl _ _⟩
   case round =>
    obtain ⟨k,hk,rfl,HO,hb⟩:=hrel
    obtain ⟨wo,rfl⟩:∃ wo:World,wo=wr:=⟨_,rfl⟩
    by_cases hlt:k < l.length
    · have hge:l[k]?=some (l.getD k noAc):=by simp [List.getD,List.getElem?_eq_getElem hlt]
      obtain ⟨b,o,rfl,hbw,hc⟩:=HE.out k _ hge
      obtain ⟨c0,c1,c2,c3⟩:=AcAt.keeps w wo b _ _ hb hbw hc
      have hsz:=HS.out k hlt
      have hRT:=HRF.out k hlt
      have hRO:actB hasTB vars (l.getD k noAc)=true→∀ j,j < k+1→actB hasTB vars (l.getD j noAc)=true:=fun h j hj=>by
       by_cases he:j=k
       · rw [he]; exact h
       · exact HO.out j (by omega)
      generalize l.getD k noAc=a at *
      have HB1:=Lib.hid (below_box wo (acBox a))
      have HX:=Lib.hid (hb.trans (HB1.out.mono hb.size))
      have HCALL:=Lib.hid (HACT.out _ a HX.out hsz)
      have HRK:=Lib.hid hRT
      have HRO:=Lib.hid hRO
      clear hge hc hsz hRT hRO
      cases hf:actB hasTB vars a with
      | true =>
       have HF:=Lib.hid hf
       clear hf
       go_wp2_with fail
       refine HCALL.out.mono ?_
       rintro e w1 ⟨rfl,hb1⟩
       have HB2:=Lib.hid (HX.out.trans (hb1.mono HX.out.size))
       rw [HF.out]
       clear hb1
       go_wp2
       go_roundw
       case rel=>exact ⟨k+1,by omega,by go_num,Lib.hid (HRO.out HF.out),HB2.out⟩
       case measure=>simp [intOf]; omega
      | false =>
       have HF:=Lib.hid hf
       clear hf
       go_wp2_with fail
       refine HCALL.out.mono ?_
       rintro e w1 ⟨rfl,hb1⟩
       have HB2:=Lib.hid (HX.out.trans (hb1.mono HX.out.size))
       rw [HF.out]
       clear hb1
       go_wp2_with fail
       go_ret
       exact ⟨ret_bool (HRK.out HF.out).symm,HB2.out⟩
    · obtain rfl:k=l.length:=by omega
      go_wp2_with fail
      go_ret
      exact ⟨ret_bool (HRT.out HO.out).symm,hb⟩
set_option maxHeartbeats 2000000 in
theorem stActs_any (s:Nat) (vs vt:Value) (C:Ch) (w:World) (hL:Laid w) (hC:ChHas w vs vt C) (hl:Short C.sts.length) (hs:s < C.sts.length) (hv:-1000≤C.vars) (hv2:C.vars≤1000)
 (he:Short (stAt C.sts s).ent.length) (hes:ShortActs (stAt C.sts s).ent) (hx:Short (stAt C.sts s).exi.length) (hxs:ShortActs (stAt C.sts s).exi) :
 Calls Tryz.prog 99 #[.agg #[.int .i64 C.vars,vs,vt],.int .i64 (s:Int)] w fun e w'=>e=.returned (.bool (stActsB hasTB C.sts C.vars s))∧Below w.heap.size w w':=by
 unfold Short at hl
 obtain ⟨b,o,cap,vi,ve,vx,rfl,hcap,hlt,hst,hhas⟩:=hC.st hs
 obtain ⟨c0,c1,c2,c3,c4⟩:=hst
 obtain ⟨hini,hent,hexi⟩:=hhas
 obtain ⟨iA,icap,eA,ecap,xA,xcap,rfl,rfl,rfl⟩:=StHas.slices ⟨hini,hent,hexi⟩
 have hR:stActsB hasTB C.sts C.vars (s:Int)=stActsB hasTB C.sts C.vars (s:Int):=rfl
 conv at hR=>rhs; unfold stActsB
 generalize stActsB hasTB C.sts C.vars (s:Int)=R at *
 generalize (stAt C.sts (s:Int)).kind=K at *
 generalize (stAt C.sts (s:Int)).par=P at *
 generalize (stAt C.sts (s:Int)).ini.length=il at *
 generalize (stAt C.sts (s:Int)).ent=le at *
 generalize (stAt C.sts (s:Int)).exi=lx at *
 have HB2:=Lib.hid (below_two w (chBox C.vars (.slice (some ⟨b,o,none⟩) C.sts.length cap) vt) (stBox K P (.slice iA il icap) (.slice eA le.length ecap) (.slice xA lx.length xcap)))
 have HE:=Lib.hid (fun (W:World) (hb:Below w.heap.size w W)=>acts_any _ le C.vars W (hL.after hb) (hent.below hb) he hes hv hv2)
 have HX:=Lib.hid (fun (W:World) (hb:Below w.heap.size w W)=>acts_any _ lx C.vars W (hL.after hb) (hexi.below hb) hx hxs hv hv2)
 unfold Short at he hx
 clear hC hL hini hent hexi hes hxs
 cases hh:histB K with
 | true =>
  rw [if_pos hh] at hR
  have HR:=Lib.hid hR
  have HH:=Lib.hid hh
  clear hR hh
  by_cases h0:le.length=0
  · have h02:((le.length:Int) == 0)=true:=by simp [h0]
    have H0:=Lib.hid h0
    clear h0
    go_enter Tryz.func99,Tryz.ntmps99
    go_wp2_with (go_at_call 92; refine (isHist_any _ _).mono ?_; rintro e w' ⟨rfl,rfl⟩; rw [HH.out])
    go_ret
    exact ⟨ret_bool (by rw [HR.out,show decide (le.length=0)=true by simp [H0.out],Bool.true_and]; exact len_dec _ 0),HB2.out⟩
  · have h02:((le.length:Int) == 0)=false:=by simp; intro h; exact h0 (by simp [h])
    have H0:=Lib.hid h0
    clear h0
    go_enter Tryz.func99,Tryz.ntmps99
    go_wp2_with (go_at_call 92; refine (isHist_any _ _).mono ?_; rintro e w' ⟨rfl,rfl⟩; rw [HH.out])
    go_ret
    exact ⟨ret_bool (by rw [HR.out,show decide (le.length=0)=false by simpa using H0.out,Bool.false_and]),HB2.out⟩
 | false =>
  rw [if_neg (by rw [hh]; simp)] at hR
  have HR:=Lib.hid hR
  have HH:=Lib.hid hh
  clear hR hh
  cases h1:actsB hasTB C.vars le with
  | false =>
   have H1:=Lib.hid h1
   clear h1
   go_enter Tryz.func99,Tryz.ntmps99
   go_wp2_with fail
   refine (isHist_any _ _).mono ?_
   rintro e w' ⟨rfl,rfl⟩
   rw [HH.out]
   go_wp2_with fail
   refine (HE.out _ HB2.out).mono ?_
   rintro e w1 ⟨rfl,hb1⟩
   have HB3:=Lib.hid (below_twod hb1)
   rw [H1.out]
   clear hb1
   go_wp2_with fail
   go_ret
   exact ⟨ret_bool (by rw [HR.out,H1.out,Bool.false_and]),HB3.out⟩
  | true =>
   have H1:=Lib.hid h1
   clear h1
   go_enter Tryz.func99,Tryz.ntmps99
   go_wp2_with fail
   refine (isHist_any _ _).mono ?_
   rintro e w' ⟨rfl,rfl⟩
   rw [HH.out]
   go_wp2_with fail
   refine (HE.out _ HB2.out).mono ?_
   rintro e w1 ⟨rfl,hb1⟩
   obtain ⟨⟨x0,x1,x2⟩,y0,y1,y2,y3,y4⟩:=two_later hb1
   have HB3:=Lib.hid (below_twod hb1)
   rw [H1.out]
   clear hb1
   go_wp2_with fail
   refine (HX.out _ HB3.out).mono ?_
   rintro e w2 ⟨rfl,hb2⟩
   have HB4:=Lib.hid (HB3.out.trans (hb2.mono HB3.out.size))
   clear hb2
   go_wp2_with fail
   go_ret
   exact ⟨ret_bool (by rw [HR.out,H1.out,Bool.true_and]),HB4.out⟩
end Go.Proofs.YtmhkpjcdkjnlnaaGreatDoor
