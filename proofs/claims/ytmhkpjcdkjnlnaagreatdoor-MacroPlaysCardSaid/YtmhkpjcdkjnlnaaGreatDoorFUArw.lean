/- The contract of act.Do. -/
import Derived.Test.YtmhkpjcdkjnlnaaGreatDoorFUAdf
namespace Go.Proofs.YtmhkpjcdkjnlnaaGreatDoor
open Go.ChangeShapes Go.WideShapes Go.ChangeAt Go.RowKit
set_option linter.unusedVariables false

theorem results_three {fn:Func} {t u v:Tmp} (h:fn.results=#[.tmp t,.tmp u,.tmp v]) (tmps:Array Value) (P:Program) (w:World) :
 (results fn tmps).run P w=.ok (.tuple #[tmps.getD t undef,tmps.getD u undef,tmps.getD v undef]) w:=by
 simp [results,h]
theorem valA_fit {e:ByteArray} {env:List Int} {n:Int} (hf:∀ x ∈ env,F64 x) (h:valA e env=.ok 1 n):F64 n:=by
 unfold valA valOfA at h
 cases ha:parseAns e.data.toList with
 | form k=>rw [ha] at h; cases h
 | large=>rw [ha] at h; cases h
 | toks o =>
  rw [ha] at h
  simp only at h
  rcases ans_cases ⟨false,env,0⟩ o (parse_toks ha).2.1 hf with ⟨k,m,h1,hg⟩ | ⟨c,h1,_⟩
  · rw [h1] at h
    injection h with h2 h3
    subst h3
    rcases hg with ⟨_,hg⟩ | ⟨hk,_⟩
    · exact hg
    · omega
  · rw [h1] at h
    cases h
theorem doA_fit {a:Ac} {d d':Ds} (hd:d.Fit) (h:doA a d=some d'):d'.Fit:=by
 unfold doA at h
 split at h
 · injection h with h; subst h; exact hd
 · split at h
   · injection h with h; subst h; exact hd
   · split at h
     · cases hv:valA a.expr d.env with
       | bad c=>rw [hv] at h; cases h
       | ok k n =>
        rw [hv] at h
        unfold doV at h
        simp only at h
        split at h
        · rename_i hk
          subst hk
          exact doK_fit (valA_fit hd hv) hd h
        · cases h
     · injection h with h; subst h; exact hd
def DoAns (X:Ds) (w:World) (e:Ending) (w':World):Prop :=
 Below w.heap.size w w'∧∃ ve vo vi,e=.returned (.tuple #[ve,vo,vi])∧OwnEnv w.heap.size w' ve X.env∧OwnOuts w.heap.size w' vo X.out∧OwnIns w.heap.size w' vi X.ins
theorem DoAns.of {X Y:Ds} {g:Nat} {w w':World} {e:Ending} {ve vo vi:Value} (he:e=.returned (.tuple #[ve,vo,vi])) (hXY:Y=X) (hb:Below w.heap.size w w') (h:DsAt w.heap.size g w' ve vo vi X):DoAns Y w e w':=⟨hb,ve,vo,vi,he,hXY ▸ h.env,hXY ▸ h.out,hXY ▸ h.ins⟩
structure Come (n k:Nat) (X:Ds):Prop where
 env:X.env.length=n
 fit:X.Fit
 out:X.out.length≤k
 ins:X.ins.length≤k
theorem Come.next {n k:Nat} {X X':Ds} {a:Ac} (h:Come n k X) (ha:doA a X=some X'):Come n (k+1) X' :=
 have hn:=doA_near ha
 ⟨hn.env.trans h.env,doA_fit h.fit ha,Nat.le_trans hn.out (Nat.succ_le_succ h.out),Nat.le_trans hn.ins (Nat.succ_le_succ h.ins)⟩
theorem own_nil (B:Nat) (w:World) (e:TypeId) (s:Nat):w.ownsRow B e s (.slice none 0 0) 0 []:=⟨by simp,.inl ⟨rfl,rfl⟩⟩
set_option maxHeartbeats 4000000 in
set_option maxRecDepth 100000 in
theorem do_all (v ve0:Value) (l:List Ac) (env:List Int) (w:World) (hL:Laid w) (hA:ActsAt w v l) (hl:l.length≤40) (hx:∀ a ∈ l,a.expr.size≤1000000) (hE:NumsAt w ve0 env) (hel:env.length≤1000) (hef:∀ x ∈ env,F64 x) :
 Calls Tryz.prog 145 #[v,ve0] w (DoAns (doL l ⟨env,[],[]⟩) w):=by
 obtain ⟨i0,hi,hz0,hz1,hz2⟩:=info_parts Tryz.info3
 have HI:=Lib.hid hi
 have HZ0:=Lib.hid hz0
 have HZ1:=Lib.hid hz1
 have HZ2:=Lib.hid hz2
 have HDO:=Lib.hid (fun (a:Ac) (ha:a ∈ l) (g k:Nat) (ve vo vi:Value) (X:Ds) (W:World) (h:Below w.heap.size w W) (hd:DsAt w.heap.size g W ve vo vi X) (hc:Come env.length k X) (hk:k≤40)=>do_any w.heap.size g ve vo vi X a W (hL.after h) (hx a ha) hd (by have:=hc.env; omega) hc.fit (by have:=hc.out; omega) (by have:=hc.ins; omega))
 have HCL:=Lib.hid (clone_any ve0 env w hE hel)
 have HEF:=Lib.hid hef
 obtain ⟨A,cap,rfl,hcap,he⟩:=hA
 have HE:=Lib.hid he
 obtain ⟨XR,hX⟩:∃ XR,XR=doL l ⟨env,[],[]⟩:=⟨_,rfl⟩
 rw [← hX]
 have HX:=Lib.hid hX
 clear hi hz0 hz1 hz2 hL hx hE hef he hX
 go_enter Tryz.func145,Tryz.ntmps145
 go_wp2_with fail
 refine HCL.out.mono ?_
 rintro e w1 ⟨hb1,v1,rfl,ho1⟩
 obtain ⟨eA,ecap,rfl⟩:=ho1.slice
 have HB1:=Lib.hid (hb1.alloc hb1.size (.cells #[.slice eA env.length ecap,.slice none 0 0,.slice none 0 0] 200))
 have HD1:Hid (DsAt w.heap.size w1.heap.size (w1.alloc (.cells #[.slice eA env.length ecap,.slice none 0 0,.slice none 0 0] 200)) (.slice eA env.length ecap) (.slice none 0 0) (.slice none 0 0) ⟨env,[],[]⟩):=Lib.hid ⟨Blk.new w1 200 _,hb1.size,ho1.below (below_box _ _),own_nil _ _ _ _,own_nil _ _ _ _⟩
 clear hb1 ho1
 go_wp2_with fail
 go_loopw [15] (fun i wr=>∃ (k:Nat) (X:Ds) (ve vo vi:Value),k≤l.length∧i=.int .i64 (k:Int)∧Hid (Below w.heap.size w wr)∧Hid (DsAt w.heap.size w1.heap.size wr ve vo vi X)∧Hid (XR=doL (l.drop k) X)∧Hid (Come env.length k X)) (fun i _=>l.length - (intOf i).toNat)
 case atStart=>exact ⟨0,_,_,_,_,Nat.zero_le _,rfl,HB1,HD1,HX,Lib.hid ⟨rfl,HEF.out,Nat.le_refl _,Nat.le_refl _⟩⟩
 case round =>
  clear HX HB1 HD1 HCL
  obtain ⟨k,X,ve,vo,vi,hk,rfl,HB,HD,HX,HC⟩:=hrel
  obtain ⟨wo,rfl⟩:∃ wo:World,wo=wr:=⟨_,rfl⟩
  by_cases hlt:k < l.length
  · obtain ⟨b,o,rfl,hbl,hc⟩:=HE.out k _ (List.getElem?_eq_getElem hlt)
    obtain ⟨c0,c1,c2,c3⟩:=AcAt.keeps w wo b _ _ HB.out hbl hc
    have HXD:Hid (XR=doL (l[k] :: l.drop (k+1)) X):=Lib.hid (by rw [HX.out,List.drop_eq_getElem_cons hlt])
    have HDA:=Lib.hid (HDO.out l[k] (List.getElem_mem hlt) w1.heap.size k ve vo vi X _ (HB.out.alloc HB.out.size (acBox l[k])) (HD.out.below (below_box wo (acBox l[k]))) HC.out (by omega))
    have HBA:=Lib.hid (HB.out.alloc HB.out.size (acBox l[k]))
    generalize l[k]=a at *
    clear hc HX
    cases hd:doA a X with
    | some X' =>
     rw [hd] at HDA
     have HX2:Hid (XR=doL (l.drop (k+1)) X'):=Lib.hid (HXD.out.trans (doL_some hd))
     have HC2:=Lib.hid (HC.out.next hd)
     obtain ⟨akd,an,am,ex⟩:=a
     simp only [Option.isSome_some,Option.getD_some] at HDA c0 c1 c2 c3
     clear hd HXD HC
     go_wp2_with fail
     refine HDA.out.mono ?_
     rintro e w2 ⟨rfl,hb2,ve2,vo2,vi2,hd2⟩
     have HB2:=Lib.hid (HBA.out.trans hb2)
     have HD2:=Lib.hid hd2
     clear hb2 hd2
     go_wp2_with fail
     go_roundw
     case rel=>exact ⟨k+1,X',ve2,vo2,vi2,by omega,by go_num,HB2,HD2,HX2,HC2⟩
     case measure=>simp [intOf]; omega
    | none =>
     rw [hd] at HDA
     have HX2:Hid (XR=X.amiss):=Lib.hid (HXD.out.trans (doL_none hd))
     obtain ⟨akd,an,am,ex⟩:=a
     simp only [Option.isSome_none,Option.getD_none] at HDA c0 c1 c2 c3
     clear hd HXD
     go_wp2_with fail
     refine HDA.out.mono ?_
     rintro e w2 ⟨rfl,hb2,ve2,vo2,vi2,hd2⟩
     have HB2:=Lib.hid ((HBA.out.trans hb2).alloc (HBA.out.trans hb2).size (.cells #[.int .i64 1001] 3))
     have HD2:=Lib.hid (hd2.below (below_box w2 (.cells #[.int .i64 1001] 3)))
     have HO2:=Lib.hid HD2.out.ins
     have HS2:=Lib.hid HD2.out.lt
     have HN2:=Lib.hid (new_in w2 1001 w2.heap.size rfl)
     obtain ⟨⟨d0,d1,d2⟩,f0,f1,f2⟩:=hd2.blk.facts3
     have hil:=HC.out.ins
     clear hb2 hd2
     go_wp2_with (at_builtin; refine wpList_append_own_at _ rfl _ _ 36 rfl w.heap.size 3 i0 (.int .i64 0) 1 8 Tryz.underlying36 HI.out HZ0.out HZ1.out HZ2.out rfl (by decide) _ _ _ rfl HO2.out ⟨w2.heap.size,0,none⟩ 1 1 [.int .i64 1001] rfl rfl HN2.out (num_one _) ?c3 ?c4 HS2.out ?_)
     case c3=>unfold maxLen; omega
     case c4=>omega
     intro v3 w3 hown3 hgrow3 _ _
     obtain ⟨g3,cap3,rfl⟩:=slice_of_own hown3
     have HD3:=Lib.hid (HD2.out.addIns (x:=1001) hgrow3 hown3)
     have HB3:=Lib.hid ((grown_below (g:=0) HB2.out HO2.out HS2.out hgrow3).setCell (p:=⟨w1.heap.size,2,none⟩) HD2.out.ge (.slice (some ⟨g3,0,none⟩) (X.ins.length+1) cap3))
     have HBD3:=Lib.hid (blk_grown HD2.out.blk HO2.out (by decide) hgrow3)
     obtain ⟨⟨y0,y1,y2⟩,x0,x1,x2⟩:=HBD3.out.facts3
     obtain ⟨⟨z0,z1,z2⟩,_⟩:=HD3.out.blk.facts3
     clear hown3 hgrow3 d0 d1 d2 f0 f1 f2
     go_wp2_with fail
     go_quiet (fail)
     go_wp2_with fail
     exact bodyPost_ret (results_three rfl _ _ _) rfl (.of rfl HX2.out (below_drewN HB3.out _) (HD3.out.drewN _))
  · obtain rfl:k=l.length:=by omega
    have HX2:Hid (XR=X):=Lib.hid (by rw [HX.out,List.drop_length]; rfl)
    obtain ⟨⟨d0,d1,d2⟩,_⟩:=HD.out.blk.facts3
    go_wp2_with fail
    go_quiet (fail)
    go_wp2_with fail
    exact bodyPost_ret (results_three rfl _ _ _) rfl (.of rfl HX2.out (below_drewN HB.out _) (HD.out.drewN _))

theorem rowIs_outs {w:World} {v:Value} {L:List Ou} (h:OutsAt w v L):RowIs w 4 v L.length (L.flatMap ouCells) :=
 rowIs_of ouCells_len (by decide) h (fun b o x hp j u hu=>by
  obtain ⟨p0,p1,p2,p3⟩:=hp
  match j,hu with
  | 0,hu=>simp [ouCells] at hu; subst hu; exact p0
  | 1,hu=>simp [ouCells] at hu; subst hu; exact p1
  | 2,hu=>simp [ouCells] at hu; subst hu; exact p2
  | 3,hu=>simp [ouCells] at hu; subst hu; exact p3
  | j+4,hu=>simp [ouCells] at hu) (fun x _ u hu=>ou_one x u hu)
theorem doL_fit:∀ (l:List Ac) (d:Ds),d.Fit→(doL l d).Fit
 | [],d,h=>h
 | a :: l,d,h=>by
  cases hd:doA a d with
  | none=>rw [doL_none hd]; exact h
  | some d'=>rw [doL_some hd]; exact doL_fit l d' (doA_fit h hd)
end Go.Proofs.YtmhkpjcdkjnlnaaGreatDoor
