/- The contract of the document's Do (spinetref10.Do). -/
import Derived.Test.YtfgkcjmeiabdjaaGreatDoorFArw
import Derived.Test.YtfgkcjmeiabdjaaGreatDoorFErof
namespace Go.Proofs.YtfgkcjmeiabdjaaGreatDoor
open Go.ChangeShapes Go.WideShapes Go.ChangeAt Go.RowKit
set_option linter.unusedVariables false

def RSaid (v:Vl) (w:World) (e:Ending) (w':World):Prop :=
  Below w.heap.size w w'∧match v with
    | .ok k n=>e=.returned (.tuple #[.agg #[.int .i64 k,.int .i64 n],.int .i64 0,.int .i64 (-1)])
    | .bad c=>∃ z,e=.returned (.tuple #[.agg #[.int .i64 0,.int .i64 0],.int .i64 c,.int .i64 z])∧(c != 0)=true
theorem said_rof {s:ByteArray} {env:List Int} {w w':World} {e:Ending} (hef:∀ x ∈ env,F64 x) (h:ROPost (parseAns s.data.toList) env w e w'):RSaid (valA s env) w e w':=by
  unfold valA
  cases ha:parseAns s.data.toList with
  | toks o =>
    rw [ha] at h
    obtain ⟨hb,h⟩:=h
    simp only at h
    unfold RSaid valOfA
    simp only
    rcases ans_cases ⟨false,env,0⟩ o (parse_toks ha).2.1 hef with ⟨k,n,h1,_⟩ | ⟨c,h1,hc,_⟩
    · rw [h1] at h ⊢
      exact ⟨hb,h⟩
    · rw [h1] at h ⊢
      exact ⟨hb,_,h,by simp; omega⟩
  | form k =>
    rw [ha] at h
    exact ⟨h.1,_,h.2,rfl⟩
  | large =>
    rw [ha] at h
    exact ⟨h.1,_,h.2,rfl⟩
structure RDs (B:Nat) (w:World) (ve vo vi:Value) (X:Ds):Prop where
  env:OwnEnv B w ve X.env
  out:OwnOuts B w vo X.out
  ins:OwnIns B w vi X.ins
theorem RDs.below {B:Nat} {w w':World} {ve vo vi:Value} {X:Ds} (h:RDs B w ve vo vi X) (hb:Below w.heap.size w w'):RDs B w' ve vo vi X:=⟨h.env.below hb,h.out.below hb,h.ins.below hb⟩
theorem RDs.addOut {B:Nat} {w w':World} {ve vo vi v':Value} {X:Ds} {o:Ou} (h:RDs B w ve vo vi X) (hg:w.grownBy w' vo.ownBlock) (ho:w'.ownsRow B 83 4 v' (X.out.length+1) (X.out.flatMap ouCells ++ ouCells o)):RDs B w' ve v' vi ⟨X.env,X.out ++ [o],X.ins⟩ :=
  ⟨row_grown h.env h.out (by decide) hg,outs_snoc ho,World.ownsRow.kept h.ins hg (own_own h.ins h.out (by decide))⟩
theorem RDs.addIns {B:Nat} {w w':World} {ve vo vi v':Value} {X:Ds} {x:Int} (h:RDs B w ve vo vi X) (hg:w.grownBy w' vi.ownBlock) (ho:w'.ownsRow B 3 1 v' (X.ins.length+1) (intVals X.ins ++ [.int .i64 x])):RDs B w' ve vo v' ⟨X.env,X.out,X.ins ++ [x]⟩ :=
  ⟨row_grown h.env h.ins (by decide) hg,World.ownsRow.kept h.out hg (own_own h.out h.ins (by decide)),ins_snoc ho⟩
theorem RDs.put {B:Nat} {w:World} {b cap:Nat} {vo vi:Value} {X:Ds} {k:Nat} {n:Int} {cur:Array Value} (h:RDs B w (.slice (some ⟨b,0,none⟩) X.env.length cap) vo vi X) (hb:Blk w b 2 cur) (hk:k < X.env.length) :
    RDs B (w.setCell ⟨b,k,none⟩ (.int .i64 n)) (.slice (some ⟨b,0,none⟩) X.env.length cap) vo vi ⟨X.env.set k n,X.out,X.ins⟩ :=
  ⟨envSet h.env hk,own_apart h.out hb (by decide) k _,own_apart h.ins hb (by decide) k _⟩
theorem DoAns.ofR {X Y:Ds} {w w':World} {e:Ending} {ve vo vi:Value} (he:e=.returned (.tuple #[ve,vo,vi])) (hXY:Y=X) (hb:Below w.heap.size w w') (h:RDs w.heap.size w' ve vo vi X):DoAns Y w e w':=⟨hb,ve,vo,vi,he,hXY ▸ h.env,hXY ▸ h.out,hXY ▸ h.ins⟩
theorem valA_do {a:Ac} {X:Ds} {v:Vl} (h2:¬ a.kind=2) (h4:¬ a.kind=4) (hk:a.kind=1 ∨ a.kind=3 ∨ a.kind=5) (hv:valA a.expr X.env=v):doA a X=doV a X v:=by
  unfold doA
  rw [if_neg h2,if_neg h4,if_pos hk,hv]
set_option maxHeartbeats 16000000 in
set_option maxRecDepth 100000 in
theorem rdo_all (v ve0:Value) (l:List Ac) (env:List Int) (w:World) (hA:ActsAt w v l) (hl:l.length≤40) (hx:∀ a ∈ l,a.expr.size≤1000000) (hE:NumsAt w ve0 env) (hel:env.length≤1000) (hef:∀ x ∈ env,F64 x) :
    Calls Tryz.prog 111 #[v,ve0] w (DoAns (doL l ⟨env,[],[]⟩) w):=by
  obtain ⟨i0,hi,hz0,hz1,hz2⟩:=info_parts Tryz.info3
  have HI:=Lib.hid hi
  have HZ0:=Lib.hid hz0
  have HZ1:=Lib.hid hz1
  have HZ2:=Lib.hid hz2
  obtain ⟨i1,ji,jz0,jz1,jz2⟩:=info_parts Tryz.infoOut
  have JI:=Lib.hid ji
  have JZ0:=Lib.hid jz0
  have JZ1:=Lib.hid jz1
  have JZ2:=Lib.hid jz2
  obtain ⟨i2,ki,kz0,kz1,kz2⟩:=info_parts Tryz.info2
  have KI:=Lib.hid ki
  have KZ0:=Lib.hid kz0
  have KZ1:=Lib.hid kz1
  have KZ2:=Lib.hid kz2
  have HXS:=Lib.hid hx
  have HEF:=Lib.hid hef
  obtain ⟨A,cap,rfl,hcap,he⟩:=hA
  have HE:=Lib.hid he
  obtain ⟨XR,hX⟩:∃ XR,XR=doL l ⟨env,[],[]⟩:=⟨_,rfl⟩
  rw [← hX]
  have HX:=Lib.hid hX
  have HR:=Lib.hid (rowIs_ints (rows_of_nums hE))
  obtain ⟨eA,ecap,rfl,_⟩:=hE
  have HBS:=Lib.hid (below_box w (.cells #[] 2))
  clear hi hz0 hz1 hz2 ji jz0 jz1 jz2 ki kz0 kz1 kz2 hx hef he hX
  go_enter Tryz.func111,Tryz.ntmps111
  go_wp2_with (at_builtin; refine wpList_append_row rfl _ _ 35 rfl w.heap.size 2 i2 (.int .i64 0) 1 8 Tryz.underlying35 KI.out KZ0.out KZ1.out KZ2.out rfl (by decide) _ 0 [] rfl (own_zero w 2 1) _ env.length (intVals env) rfl HR.out HBS.out ?c3 ?c4 ?c5 ?_)
  case c3=>unfold maxLen; omega
  case c4=>omega
  case c5=>simp
  intro v' w1 hown' hgrow
  have HB1:=Lib.hid (Below.grown HBS.out hgrow (by simp) (fun g hg=>by
    have h:some w.heap.size=some g:=hg
    injection h with h
    omega))
  have HD1:Hid (OwnEnv w.heap.size w1 v' env):=Lib.hid (env_of_own (by simpa using hown') rfl)
  obtain ⟨A7,cap7,rfl⟩:=HD1.out.slice
  clear hown' hgrow
  go_wp2_with fail
  have HOF:=Lib.hid (fun (ex:ByteArray) (hx:ex.size≤1000000) (W:World) (E:List Int) (hE:NumsAt W (.slice A7 env.length cap7) E) (hel:E.length≤1000) (hef:∀ x ∈ E,F64 x)=>(rof_any ex (.slice A7 env.length cap7) E W hx hE hel hef).mono (fun e w' h=>said_rof hef h))
  go_loopw [8,9,10] (fun v8 v9 i wr=>∃ (k:Nat) (X:Ds),k≤l.length∧i=.int .i64 (k:Int)∧Hid (Below w.heap.size w wr)∧Hid (RDs w.heap.size wr (.slice A7 env.length cap7) v8 v9 X)∧Hid (XR=doL (l.drop k) X)∧Hid (Come env.length k X)) (fun _ _ i _=>l.length - (intOf i).toNat)
  case atStart=>exact ⟨0,⟨env,[],[]⟩,Nat.zero_le _,rfl,HB1,Lib.hid ⟨HD1.out,own_nil _ _ _ _,own_nil _ _ _ _⟩,HX,Lib.hid ⟨rfl,HEF.out,Nat.le_refl _,Nat.le_refl _⟩⟩
  case round =>
    clear HX HB1 HD1
    obtain ⟨k,X,hk,rfl,HB,HD,HX,HC⟩:=hrel
    obtain ⟨wo,rfl⟩:∃ wo:World,wo=wr:=⟨_,rfl⟩
    by_cases hlt:k < l.length
    · obtain ⟨b,o,rfl,hbl,hc⟩:=HE.out k _ (List.getElem?_eq_getElem hlt)
      obtain ⟨c0,c1,c2,c3⟩:=AcAt.keeps w wo b _ _ HB.out hbl hc
      have HXD:Hid (XR=doL (l[k] :: l.drop (k+1)) X):=Lib.hid (by rw [HX.out,List.drop_eq_getElem_cons hlt])
      have HBA:=Lib.hid (HB.out.alloc HB.out.size (acBox l[k]))
      have HDA:=Lib.hid (HD.out.below (below_box wo (acBox l[k])))
      have HWA:=Lib.hid (Blk.new wo 105 #[.int .i64 l[k].kind,.int .i64 l[k].n,.int .i64 l[k].m,.string l[k].expr])
      have HOF1:=Lib.hid (HOF.out l[k].expr (HXS.out _ (List.getElem_mem hlt)) _ X.env HDA.out.env.nums (by rw [HC.out.env]; exact hel) HC.out.fit)
      have hol:=HC.out.out
      have hil:=HC.out.ins
      generalize l[k]=a at *
      clear hc HX HD
      obtain ⟨kd,an,am,ex⟩:=a
      simp only at c0 c1 c2 c3 HOF1
      by_cases h2:kd=2
      · subst h2
        have hdA:doA ⟨2,an,am,ex⟩ X=some ⟨X.env,X.out,X.ins ++ [an]⟩:=by simp [doA]
        have HX2:Hid (XR=doL (l.drop (k+1)) ⟨X.env,X.out,X.ins ++ [an]⟩):=Lib.hid (HXD.out.trans (doL_some hdA))
        have HC2:=Lib.hid (HC.out.next hdA)
        have HD2:=Lib.hid (HDA.out.below (below_box _ (.cells #[.int .i64 an] 3)))
        have HB2:=Lib.hid (HBA.out.alloc HBA.out.size (.cells #[.int .i64 an] 3))
        have HW2:=Lib.hid (HWA.out.alloc (.cells #[.int .i64 an] 3))
        have HS2:=Lib.hid HB2.out.size
        have HN2:=Lib.hid (new_in (wo.alloc (acBox ⟨2,an,am,ex⟩)) an (wo.heap.size+1) (by simp))
        clear HXD HC HOF1 hdA
        go_wp2_with (at_builtin; refine wpList_append_own_at _ rfl _ _ 36 rfl w.heap.size 3 i0 (.int .i64 0) 1 8 Tryz.underlying36 HI.out HZ0.out HZ1.out HZ2.out rfl (by decide) _ _ _ rfl HD2.out.ins ⟨wo.heap.size+1,0,none⟩ 1 1 [.int .i64 an] rfl rfl HN2.out (num_one _) ?c3 ?c4 ?c5 ?_)
        case c3=>unfold maxLen; omega
        case c4=>omega
        case c5=>first | exact HS2.out | simpa using HS2.out
        intro v3 w3 hown3 hgrow3 _ _
        have HD3:=Lib.hid (HD2.out.addIns (x:=an) hgrow3 hown3)
        have HB3:=Lib.hid (grown_below (g:=0) HB2.out HD2.out.ins HS2.out hgrow3)
        obtain ⟨⟨q0,q1,q2,q3⟩,_⟩:=(blk_grown HW2.out HD2.out.ins (by decide) hgrow3).four
        clear hown3 hgrow3
        go_wp2_with fail
        go_roundw
        case rel=>exact ⟨k+1,_,by omega,by go_num,HB3,HD3,HX2,HC2⟩
        case measure=>simp [intOf]; omega
      · by_cases h4:kd=4
        · subst h4
          clear h2
          have hdA:doA ⟨4,an,am,ex⟩ X=some ⟨X.env,X.out ++ [⟨4,0,0,an⟩],X.ins⟩:=by simp [doA]
          have HX2:Hid (XR=doL (l.drop (k+1)) ⟨X.env,X.out ++ [⟨4,0,0,an⟩],X.ins⟩):=Lib.hid (HXD.out.trans (doL_some hdA))
          have HC2:=Lib.hid (HC.out.next hdA)
          have HD2:=Lib.hid (HDA.out.below (below_box _ (.cells #[.int .i64 4,.int .i64 0,.int .i64 0,.int .i64 an] 83)))
          have HB2:=Lib.hid (HBA.out.alloc HBA.out.size (.cells #[.int .i64 4,.int .i64 0,.int .i64 0,.int .i64 an] 83))
          have HW2:=Lib.hid (HWA.out.alloc (.cells #[.int .i64 4,.int .i64 0,.int .i64 0,.int .i64 an] 83))
          have HS2:=Lib.hid HB2.out.size
          have HN2:=Lib.hid (new_ou (wo.alloc (acBox ⟨4,an,am,ex⟩)) ⟨4,0,0,an⟩ (wo.heap.size+1) (by simp))
          clear HXD HC HOF1 hdA
          go_wp2_with (at_builtin; refine wpList_append_own_at _ rfl _ _ 39 rfl w.heap.size 83 i1 (.agg #[.int .i64 0,.int .i64 0,.int .i64 0,.int .i64 0]) 4 32 Tryz.underlying39 JI.out JZ0.out JZ1.out JZ2.out rfl (by decide) _ _ _ rfl HD2.out.out ⟨wo.heap.size+1,0,none⟩ 1 1 (ouCells ⟨4,0,0,an⟩) rfl rfl HN2.out (ou_one _) ?c3 ?c4 ?c5 ?_)
          case c3=>unfold maxLen; omega
          case c4=>omega
          case c5=>first | exact HS2.out | simpa using HS2.out
          intro v3 w3 hown3 hgrow3 _ _
          have HD3:=Lib.hid (HD2.out.addOut (o:=⟨4,0,0,an⟩) hgrow3 hown3)
          have HB3:=Lib.hid (grown_below (g:=0) HB2.out HD2.out.out HS2.out hgrow3)
          obtain ⟨⟨q0,q1,q2,q3⟩,_⟩:=(blk_grown HW2.out HD2.out.out (by decide) hgrow3).four
          clear hown3 hgrow3
          go_wp2_with fail
          go_roundw
          case rel=>exact ⟨k+1,_,by omega,by go_num,HB3,HD3,HX2,HC2⟩
          case measure=>simp [intOf]; omega
        · by_cases hk135:kd=1 ∨ kd=3 ∨ kd=5
          · clear h2 h4
            rcases hk135 with rfl | rfl | rfl
            · cases hv:valA ex X.env with
              | bad c =>
                rw [hv] at HOF1
                have hdA:doA ⟨1,an,am,ex⟩ X=none:=by rw [valA_do (v:=.bad c) (by simp) (by simp) (by simp) hv]; rfl
                have HX2:Hid (XR=X.amiss):=Lib.hid (HXD.out.trans (doL_none hdA))
                clear HXD hdA
                clear hv
                go_wp2_with fail
                refine HOF1.out.mono ?_
                rintro e w2 ⟨hb2,z,he,hne⟩
                have he:e=.returned (.tuple #[.agg #[.int .i64 0,.int .i64 0],.int .i64 c,.int .i64 z]):=he
                subst he
                have HD2:=Lib.hid ((HDA.out.below hb2).below (below_box w2 (.cells #[.int .i64 0,.int .i64 0] 172)))
                have HB2:=Lib.hid ((HBA.out.trans (hb2.mono HBA.out.size)).alloc (Nat.le_trans HBA.out.size hb2.size) (.cells #[.int .i64 0,.int .i64 0] 172))
                have HW2:=Lib.hid ((HWA.out.below hb2 HWA.out.lt).alloc (.cells #[.int .i64 0,.int .i64 0] 172))
                obtain ⟨⟨q0,q1,q2,q3⟩,_⟩:=HW2.out.four
                obtain ⟨⟨y0,y1⟩,_⟩:=(Blk.new w2 172 #[.int .i64 0,.int .i64 0]).facts2
                clear hb2
                have HD3:=Lib.hid (HD2.out.below (below_box _ (.cells #[.int .i64 1001] 3)))
                have HB3:=Lib.hid (HB2.out.alloc HB2.out.size (.cells #[.int .i64 1001] 3))
                have HS2:=Lib.hid HB3.out.size
                have HN2:=Lib.hid (new_in (w2.alloc (.cells #[.int .i64 0,.int .i64 0] 172)) 1001 (w2.heap.size+1) (by simp))
                go_wp2_with (at_builtin; refine wpList_append_own_at _ rfl _ _ 36 rfl w.heap.size 3 i0 (.int .i64 0) 1 8 Tryz.underlying36 HI.out HZ0.out HZ1.out HZ2.out rfl (by decide) _ _ _ rfl HD3.out.ins ⟨w2.heap.size+1,0,none⟩ 1 1 [.int .i64 1001] rfl rfl HN2.out (num_one _) ?c3 ?c4 ?c5 ?_)
                case c3=>unfold maxLen; omega
                case c4=>omega
                case c5=>first | exact HS2.out | simpa using HS2.out
                intro v4 w4 hown4 hgrow4 _ _
                have HD4:=Lib.hid (HD3.out.addIns (x:=1001) hgrow4 hown4)
                have HB4:=Lib.hid (grown_below (g:=0) HB3.out HD3.out.ins HS2.out hgrow4)
                clear hown4 hgrow4
                go_wp2_with fail
                refine bodyPost_ret (results_three rfl _ _ _) rfl ?_
                exact .ofR rfl HX2.out HB4.out HD4.out
              | ok kk n =>
                rw [hv] at HOF1
                by_cases h1:kk=1
                · subst h1
                  by_cases hr:0≤an∧an < (X.env.length:Int)
                  · have hdA:doA ⟨1,an,am,ex⟩ X=some ⟨X.env.set an.toNat n,X.out,X.ins⟩:=by rw [valA_do (v:=.ok 1 n) (by simp) (by simp) (by simp) hv]; simp [doV,doK,hr]
                    have HX2:Hid (XR=doL (l.drop (k+1)) ⟨X.env.set an.toNat n,X.out,X.ins⟩):=Lib.hid (HXD.out.trans (doL_some hdA))
                    have HC2:=Lib.hid (HC.out.next hdA)
                    have hel2:=HC.out.env
                    obtain ⟨j,rfl⟩:∃ j:Nat,an=(j:Int):=⟨an.toNat,by omega⟩
                    have hj:j < X.env.length:=by omega
                    clear HXD HC hdA hr hv
                    go_wp2_with fail
                    refine HOF1.out.mono ?_
                    rintro e w2 ⟨hb2,he⟩
                    have he:e=.returned (.tuple #[.agg #[.int .i64 1,.int .i64 n],.int .i64 0,.int .i64 (-1)]):=he
                    subst he
                    have HD2:=Lib.hid ((HDA.out.below hb2).below (below_box w2 (.cells #[.int .i64 1,.int .i64 n] 172)))
                    have HB2:=Lib.hid ((HBA.out.trans (hb2.mono HBA.out.size)).alloc (Nat.le_trans HBA.out.size hb2.size) (.cells #[.int .i64 1,.int .i64 n] 172))
                    have HW2:=Lib.hid ((HWA.out.below hb2 HWA.out.lt).alloc (.cells #[.int .i64 1,.int .i64 n] 172))
                    obtain ⟨⟨q0,q1,q2,q3⟩,_⟩:=HW2.out.four
                    obtain ⟨⟨y0,y1⟩,_⟩:=(Blk.new w2 172 #[.int .i64 1,.int .i64 n]).facts2
                    clear hb2
                    obtain ⟨b7,cap7',cur7,h7,_,hB7,hblk7,cb7,fb7⟩:=HD2.out.env.place hj
                    have h7':=h7
                    injection h7' with e1 e2 e3
                    subst e1
                    have n1:((j:Int) < 0)=False:=by simp
                    have n2:¬ (env.length:Int)≤(j:Int):=by omega
                    have hj0:(0:Int)≤(j:Int):=by omega
                    have hj1:(j:Int) < (env.length:Int):=by omega
                    have HB3:=Lib.hid (HB2.out.setCell (p:=⟨b7,j,none⟩) hB7 (.int .i64 n))
                    have HD3:Hid (RDs w.heap.size ((w2.alloc (.cells #[.int .i64 1,.int .i64 n] 172)).setCell ⟨b7,j,none⟩ (.int .i64 n)) (.slice (some ⟨b7,0,none⟩) env.length cap7) u8 u9 ⟨X.env.set j n,X.out,X.ins⟩):=Lib.hid (by
                      have h:=HD2.out
                      rw [h7] at h ⊢
                      exact h.put hblk7 hj)
                    have HX3:Hid (XR=doL (l.drop (k+1)) ⟨X.env.set j n,X.out,X.ins⟩):=Lib.hid (by rw [HX2.out]; simp)
                    have HC3:Hid (Come env.length (k+1) ⟨X.env.set j n,X.out,X.ins⟩):=Lib.hid (by have h:=HC2.out; simpa using h)
                    generalize X.env[j]=old at *
                    clear HX2 HC2 h7 hblk7 hB7 e2 e3 hel2
                    go_wp2_with fail
                    go_roundw
                    case rel=>exact ⟨k+1,_,by omega,by go_num,HB3,HD3,HX3,HC3⟩
                    case measure=>simp [intOf]; omega
                  · have hdA:doA ⟨1,an,am,ex⟩ X=none:=by rw [valA_do (v:=.ok 1 n) (by simp) (by simp) (by simp) hv]; simp [doV,doK,hr]
                    have HX2:Hid (XR=X.amiss):=Lib.hid (HXD.out.trans (doL_none hdA))
                    clear HXD hdA
                    have hel2:=HC.out.env
                    clear hv HC
                    go_wp2_with fail
                    refine HOF1.out.mono ?_
                    rintro e w2 ⟨hb2,he⟩
                    have he:e=.returned (.tuple #[.agg #[.int .i64 1,.int .i64 n],.int .i64 0,.int .i64 (-1)]):=he
                    subst he
                    have HD2:=Lib.hid ((HDA.out.below hb2).below (below_box w2 (.cells #[.int .i64 1,.int .i64 n] 172)))
                    have HB2:=Lib.hid ((HBA.out.trans (hb2.mono HBA.out.size)).alloc (Nat.le_trans HBA.out.size hb2.size) (.cells #[.int .i64 1,.int .i64 n] 172))
                    have HW2:=Lib.hid ((HWA.out.below hb2 HWA.out.lt).alloc (.cells #[.int .i64 1,.int .i64 n] 172))
                    obtain ⟨⟨q0,q1,q2,q3⟩,_⟩:=HW2.out.four
                    obtain ⟨⟨y0,y1⟩,_⟩:=(Blk.new w2 172 #[.int .i64 1,.int .i64 n]).facts2
                    clear hb2
                    by_cases hn:an < 0
                    · clear hr
                      have HD3:=Lib.hid (HD2.out.below (below_box _ (.cells #[.int .i64 1001] 3)))
                      have HB3:=Lib.hid (HB2.out.alloc HB2.out.size (.cells #[.int .i64 1001] 3))
                      have HS2:=Lib.hid HB3.out.size
                      have HN2:=Lib.hid (new_in (w2.alloc (.cells #[.int .i64 1,.int .i64 n] 172)) 1001 (w2.heap.size+1) (by simp))
                      go_wp2_with (at_builtin; refine wpList_append_own_at _ rfl _ _ 36 rfl w.heap.size 3 i0 (.int .i64 0) 1 8 Tryz.underlying36 HI.out HZ0.out HZ1.out HZ2.out rfl (by decide) _ _ _ rfl HD3.out.ins ⟨w2.heap.size+1,0,none⟩ 1 1 [.int .i64 1001] rfl rfl HN2.out (num_one _) ?c3 ?c4 ?c5 ?_)
                      case c3=>unfold maxLen; omega
                      case c4=>omega
                      case c5=>first | exact HS2.out | simpa using HS2.out
                      intro v4 w4 hown4 hgrow4 _ _
                      have HD4:=Lib.hid (HD3.out.addIns (x:=1001) hgrow4 hown4)
                      have HB4:=Lib.hid (grown_below (g:=0) HB3.out HD3.out.ins HS2.out hgrow4)
                      clear hown4 hgrow4
                      go_wp2_with fail
                      refine bodyPost_ret (results_three rfl _ _ _) rfl ?_
                      exact .ofR rfl HX2.out HB4.out HD4.out
                    · have hn2:(env.length:Int)≤an:=by omega
                      clear hr
                      have HD3:=Lib.hid (HD2.out.below (below_box _ (.cells #[.int .i64 1001] 3)))
                      have HB3:=Lib.hid (HB2.out.alloc HB2.out.size (.cells #[.int .i64 1001] 3))
                      have HS2:=Lib.hid HB3.out.size
                      have HN2:=Lib.hid (new_in (w2.alloc (.cells #[.int .i64 1,.int .i64 n] 172)) 1001 (w2.heap.size+1) (by simp))
                      go_wp2_with (at_builtin; refine wpList_append_own_at _ rfl _ _ 36 rfl w.heap.size 3 i0 (.int .i64 0) 1 8 Tryz.underlying36 HI.out HZ0.out HZ1.out HZ2.out rfl (by decide) _ _ _ rfl HD3.out.ins ⟨w2.heap.size+1,0,none⟩ 1 1 [.int .i64 1001] rfl rfl HN2.out (num_one _) ?c3 ?c4 ?c5 ?_)
                      case c3=>unfold maxLen; omega
                      case c4=>omega
                      case c5=>first | exact HS2.out | simpa using HS2.out
                      intro v4 w4 hown4 hgrow4 _ _
                      have HD4:=Lib.hid (HD3.out.addIns (x:=1001) hgrow4 hown4)
                      have HB4:=Lib.hid (grown_below (g:=0) HB3.out HD3.out.ins HS2.out hgrow4)
                      clear hown4 hgrow4
                      go_wp2_with fail
                      refine bodyPost_ret (results_three rfl _ _ _) rfl ?_
                      exact .ofR rfl HX2.out HB4.out HD4.out
                · have hdA:doA ⟨1,an,am,ex⟩ X=none:=by rw [valA_do (v:=.ok kk n) (by simp) (by simp) (by simp) hv]; simp [doV,h1]
                  have HX2:Hid (XR=X.amiss):=Lib.hid (HXD.out.trans (doL_none hdA))
                  clear HXD hdA
                  have ek:(kk != 1)=true:=by simpa using h1
                  clear hv h1
                  go_wp2_with fail
                  refine HOF1.out.mono ?_
                  rintro e w2 ⟨hb2,he⟩
                  have he:e=.returned (.tuple #[.agg #[.int .i64 kk,.int .i64 n],.int .i64 0,.int .i64 (-1)]):=he
                  subst he
                  have HD2:=Lib.hid ((HDA.out.below hb2).below (below_box w2 (.cells #[.int .i64 kk,.int .i64 n] 172)))
                  have HB2:=Lib.hid ((HBA.out.trans (hb2.mono HBA.out.size)).alloc (Nat.le_trans HBA.out.size hb2.size) (.cells #[.int .i64 kk,.int .i64 n] 172))
                  have HW2:=Lib.hid ((HWA.out.below hb2 HWA.out.lt).alloc (.cells #[.int .i64 kk,.int .i64 n] 172))
                  obtain ⟨⟨q0,q1,q2,q3⟩,_⟩:=HW2.out.four
                  obtain ⟨⟨y0,y1⟩,_⟩:=(Blk.new w2 172 #[.int .i64 kk,.int .i64 n]).facts2
                  clear hb2
                  have HD3:=Lib.hid (HD2.out.below (below_box _ (.cells #[.int .i64 1001] 3)))
                  have HB3:=Lib.hid (HB2.out.alloc HB2.out.size (.cells #[.int .i64 1001] 3))
                  have HS2:=Lib.hid HB3.out.size
                  have HN2:=Lib.hid (new_in (w2.alloc (.cells #[.int .i64 kk,.int .i64 n] 172)) 1001 (w2.heap.size+1) (by simp))
                  go_wp2_with (at_builtin; refine wpList_append_own_at _ rfl _ _ 36 rfl w.heap.size 3 i0 (.int .i64 0) 1 8 Tryz.underlying36 HI.out HZ0.out HZ1.out HZ2.out rfl (by decide) _ _ _ rfl HD3.out.ins ⟨w2.heap.size+1,0,none⟩ 1 1 [.int .i64 1001] rfl rfl HN2.out (num_one _) ?c3 ?c4 ?c5 ?_)
                  case c3=>unfold maxLen; omega
                  case c4=>omega
                  case c5=>first | exact HS2.out | simpa using HS2.out
                  intro v4 w4 hown4 hgrow4 _ _
                  have HD4:=Lib.hid (HD3.out.addIns (x:=1001) hgrow4 hown4)
                  have HB4:=Lib.hid (grown_below (g:=0) HB3.out HD3.out.ins HS2.out hgrow4)
                  clear hown4 hgrow4
                  go_wp2_with fail
                  refine bodyPost_ret (results_three rfl _ _ _) rfl ?_
                  exact .ofR rfl HX2.out HB4.out HD4.out
            · cases hv:valA ex X.env with
              | bad c =>
                rw [hv] at HOF1
                have hdA:doA ⟨3,an,am,ex⟩ X=none:=by rw [valA_do (v:=.bad c) (by simp) (by simp) (by simp) hv]; rfl
                have HX2:Hid (XR=X.amiss):=Lib.hid (HXD.out.trans (doL_none hdA))
                clear HXD hdA
                clear hv
                go_wp2_with fail
                refine HOF1.out.mono ?_
                rintro e w2 ⟨hb2,z,he,hne⟩
                have he:e=.returned (.tuple #[.agg #[.int .i64 0,.int .i64 0],.int .i64 c,.int .i64 z]):=he
                subst he
                have HD2:=Lib.hid ((HDA.out.below hb2).below (below_box w2 (.cells #[.int .i64 0,.int .i64 0] 172)))
                have HB2:=Lib.hid ((HBA.out.trans (hb2.mono HBA.out.size)).alloc (Nat.le_trans HBA.out.size hb2.size) (.cells #[.int .i64 0,.int .i64 0] 172))
                have HW2:=Lib.hid ((HWA.out.below hb2 HWA.out.lt).alloc (.cells #[.int .i64 0,.int .i64 0] 172))
                obtain ⟨⟨q0,q1,q2,q3⟩,_⟩:=HW2.out.four
                obtain ⟨⟨y0,y1⟩,_⟩:=(Blk.new w2 172 #[.int .i64 0,.int .i64 0]).facts2
                clear hb2
                have HD3:=Lib.hid (HD2.out.below (below_box _ (.cells #[.int .i64 1001] 3)))
                have HB3:=Lib.hid (HB2.out.alloc HB2.out.size (.cells #[.int .i64 1001] 3))
                have HS2:=Lib.hid HB3.out.size
                have HN2:=Lib.hid (new_in (w2.alloc (.cells #[.int .i64 0,.int .i64 0] 172)) 1001 (w2.heap.size+1) (by simp))
                go_wp2_with (at_builtin; refine wpList_append_own_at _ rfl _ _ 36 rfl w.heap.size 3 i0 (.int .i64 0) 1 8 Tryz.underlying36 HI.out HZ0.out HZ1.out HZ2.out rfl (by decide) _ _ _ rfl HD3.out.ins ⟨w2.heap.size+1,0,none⟩ 1 1 [.int .i64 1001] rfl rfl HN2.out (num_one _) ?c3 ?c4 ?c5 ?_)
                case c3=>unfold maxLen; omega
                case c4=>omega
                case c5=>first | exact HS2.out | simpa using HS2.out
                intro v4 w4 hown4 hgrow4 _ _
                have HD4:=Lib.hid (HD3.out.addIns (x:=1001) hgrow4 hown4)
                have HB4:=Lib.hid (grown_below (g:=0) HB3.out HD3.out.ins HS2.out hgrow4)
                clear hown4 hgrow4
                go_wp2_with fail
                refine bodyPost_ret (results_three rfl _ _ _) rfl ?_
                exact .ofR rfl HX2.out HB4.out HD4.out
              | ok kk n =>
                rw [hv] at HOF1
                by_cases h1:kk=1
                · subst h1
                  have hdA:doA ⟨3,an,am,ex⟩ X=some ⟨X.env,X.out ++ [⟨3,an,am,n⟩],X.ins⟩:=by rw [valA_do (v:=.ok 1 n) (by simp) (by simp) (by simp) hv]; simp [doV,doK]
                  have HX2:Hid (XR=doL (l.drop (k+1)) ⟨X.env,X.out ++ [⟨3,an,am,n⟩],X.ins⟩):=Lib.hid (HXD.out.trans (doL_some hdA))
                  have HC2:=Lib.hid (HC.out.next hdA)
                  clear HXD HC hdA hv
                  go_wp2_with fail
                  refine HOF1.out.mono ?_
                  rintro e w2 ⟨hb2,he⟩
                  have he:e=.returned (.tuple #[.agg #[.int .i64 1,.int .i64 n],.int .i64 0,.int .i64 (-1)]):=he
                  subst he
                  have HD2:=Lib.hid ((HDA.out.below hb2).below (below_box w2 (.cells #[.int .i64 1,.int .i64 n] 172)))
                  have HB2:=Lib.hid ((HBA.out.trans (hb2.mono HBA.out.size)).alloc (Nat.le_trans HBA.out.size hb2.size) (.cells #[.int .i64 1,.int .i64 n] 172))
                  have HW2:=Lib.hid ((HWA.out.below hb2 HWA.out.lt).alloc (.cells #[.int .i64 1,.int .i64 n] 172))
                  obtain ⟨⟨q0,q1,q2,q3⟩,_⟩:=HW2.out.four
                  obtain ⟨⟨y0,y1⟩,_⟩:=(Blk.new w2 172 #[.int .i64 1,.int .i64 n]).facts2
                  clear hb2
                  have HD3:=Lib.hid (HD2.out.below (below_box _ (.cells #[.int .i64 3,.int .i64 an,.int .i64 am,.int .i64 n] 83)))
                  have HB3:=Lib.hid (HB2.out.alloc HB2.out.size (.cells #[.int .i64 3,.int .i64 an,.int .i64 am,.int .i64 n] 83))
                  have HW3:=Lib.hid (HW2.out.alloc (.cells #[.int .i64 3,.int .i64 an,.int .i64 am,.int .i64 n] 83))
                  have HS2:=Lib.hid HB3.out.size
                  have HN2:=Lib.hid (new_ou (w2.alloc (.cells #[.int .i64 1,.int .i64 n] 172)) ⟨3,an,am,n⟩ (w2.heap.size+1) (by simp))
                  go_wp2_with (at_builtin; refine wpList_append_own_at _ rfl _ _ 39 rfl w.heap.size 83 i1 (.agg #[.int .i64 0,.int .i64 0,.int .i64 0,.int .i64 0]) 4 32 Tryz.underlying39 JI.out JZ0.out JZ1.out JZ2.out rfl (by decide) _ _ _ rfl HD3.out.out ⟨w2.heap.size+1,0,none⟩ 1 1 (ouCells ⟨3,an,am,n⟩) rfl rfl HN2.out (ou_one _) ?c3 ?c4 ?c5 ?_)
                  case c3=>unfold maxLen; omega
                  case c4=>omega
                  case c5=>first | exact HS2.out | simpa using HS2.out
                  intro v4 w4 hown4 hgrow4 _ _
                  have HD4:=Lib.hid (HD3.out.addOut (o:=⟨3,an,am,n⟩) hgrow4 hown4)
                  have HB4:=Lib.hid (grown_below (g:=0) HB3.out HD3.out.out HS2.out hgrow4)
                  clear hown4 hgrow4
                  go_wp2_with fail
                  go_roundw
                  case rel=>exact ⟨k+1,_,by omega,by go_num,HB4,HD4,HX2,HC2⟩
                  case measure=>simp [intOf]; omega
                · have hdA:doA ⟨3,an,am,ex⟩ X=none:=by rw [valA_do (v:=.ok kk n) (by simp) (by simp) (by simp) hv]; simp [doV,h1]
                  have HX2:Hid (XR=X.amiss):=Lib.hid (HXD.out.trans (doL_none hdA))
                  clear HXD hdA
                  have ek:(kk != 1)=true:=by simpa using h1
                  clear hv h1
                  go_wp2_with fail
                  refine HOF1.out.mono ?_
                  rintro e w2 ⟨hb2,he⟩
                  have he:e=.returned (.tuple #[.agg #[.int .i64 kk,.int .i64 n],.int .i64 0,.int .i64 (-1)]):=he
                  subst he
                  have HD2:=Lib.hid ((HDA.out.below hb2).below (below_box w2 (.cells #[.int .i64 kk,.int .i64 n] 172)))
                  have HB2:=Lib.hid ((HBA.out.trans (hb2.mono HBA.out.size)).alloc (Nat.le_trans HBA.out.size hb2.size) (.cells #[.int .i64 kk,.int .i64 n] 172))
                  have HW2:=Lib.hid ((HWA.out.below hb2 HWA.out.lt).alloc (.cells #[.int .i64 kk,.int .i64 n] 172))
                  obtain ⟨⟨q0,q1,q2,q3⟩,_⟩:=HW2.out.four
                  obtain ⟨⟨y0,y1⟩,_⟩:=(Blk.new w2 172 #[.int .i64 kk,.int .i64 n]).facts2
                  clear hb2
                  have HD3:=Lib.hid (HD2.out.below (below_box _ (.cells #[.int .i64 1001] 3)))
                  have HB3:=Lib.hid (HB2.out.alloc HB2.out.size (.cells #[.int .i64 1001] 3))
                  have HS2:=Lib.hid HB3.out.size
                  have HN2:=Lib.hid (new_in (w2.alloc (.cells #[.int .i64 kk,.int .i64 n] 172)) 1001 (w2.heap.size+1) (by simp))
                  go_wp2_with (at_builtin; refine wpList_append_own_at _ rfl _ _ 36 rfl w.heap.size 3 i0 (.int .i64 0) 1 8 Tryz.underlying36 HI.out HZ0.out HZ1.out HZ2.out rfl (by decide) _ _ _ rfl HD3.out.ins ⟨w2.heap.size+1,0,none⟩ 1 1 [.int .i64 1001] rfl rfl HN2.out (num_one _) ?c3 ?c4 ?c5 ?_)
                  case c3=>unfold maxLen; omega
                  case c4=>omega
                  case c5=>first | exact HS2.out | simpa using HS2.out
                  intro v4 w4 hown4 hgrow4 _ _
                  have HD4:=Lib.hid (HD3.out.addIns (x:=1001) hgrow4 hown4)
                  have HB4:=Lib.hid (grown_below (g:=0) HB3.out HD3.out.ins HS2.out hgrow4)
                  clear hown4 hgrow4
                  go_wp2_with fail
                  refine bodyPost_ret (results_three rfl _ _ _) rfl ?_
                  exact .ofR rfl HX2.out HB4.out HD4.out
            · cases hv:valA ex X.env with
              | bad c =>
                rw [hv] at HOF1
                have hdA:doA ⟨5,an,am,ex⟩ X=none:=by rw [valA_do (v:=.bad c) (by simp) (by simp) (by simp) hv]; rfl
                have HX2:Hid (XR=X.amiss):=Lib.hid (HXD.out.trans (doL_none hdA))
                clear HXD hdA
                clear hv
                go_wp2_with fail
                refine HOF1.out.mono ?_
                rintro e w2 ⟨hb2,z,he,hne⟩
                have he:e=.returned (.tuple #[.agg #[.int .i64 0,.int .i64 0],.int .i64 c,.int .i64 z]):=he
                subst he
                have HD2:=Lib.hid ((HDA.out.below hb2).below (below_box w2 (.cells #[.int .i64 0,.int .i64 0] 172)))
                have HB2:=Lib.hid ((HBA.out.trans (hb2.mono HBA.out.size)).alloc (Nat.le_trans HBA.out.size hb2.size) (.cells #[.int .i64 0,.int .i64 0] 172))
                have HW2:=Lib.hid ((HWA.out.below hb2 HWA.out.lt).alloc (.cells #[.int .i64 0,.int .i64 0] 172))
                obtain ⟨⟨q0,q1,q2,q3⟩,_⟩:=HW2.out.four
                obtain ⟨⟨y0,y1⟩,_⟩:=(Blk.new w2 172 #[.int .i64 0,.int .i64 0]).facts2
                clear hb2
                have HD3:=Lib.hid (HD2.out.below (below_box _ (.cells #[.int .i64 1001] 3)))
                have HB3:=Lib.hid (HB2.out.alloc HB2.out.size (.cells #[.int .i64 1001] 3))
                have HS2:=Lib.hid HB3.out.size
                have HN2:=Lib.hid (new_in (w2.alloc (.cells #[.int .i64 0,.int .i64 0] 172)) 1001 (w2.heap.size+1) (by simp))
                go_wp2_with (at_builtin; refine wpList_append_own_at _ rfl _ _ 36 rfl w.heap.size 3 i0 (.int .i64 0) 1 8 Tryz.underlying36 HI.out HZ0.out HZ1.out HZ2.out rfl (by decide) _ _ _ rfl HD3.out.ins ⟨w2.heap.size+1,0,none⟩ 1 1 [.int .i64 1001] rfl rfl HN2.out (num_one _) ?c3 ?c4 ?c5 ?_)
                case c3=>unfold maxLen; omega
                case c4=>omega
                case c5=>first | exact HS2.out | simpa using HS2.out
                intro v4 w4 hown4 hgrow4 _ _
                have HD4:=Lib.hid (HD3.out.addIns (x:=1001) hgrow4 hown4)
                have HB4:=Lib.hid (grown_below (g:=0) HB3.out HD3.out.ins HS2.out hgrow4)
                clear hown4 hgrow4
                go_wp2_with fail
                refine bodyPost_ret (results_three rfl _ _ _) rfl ?_
                exact .ofR rfl HX2.out HB4.out HD4.out
              | ok kk n =>
                rw [hv] at HOF1
                by_cases h1:kk=1
                · subst h1
                  have hdA:doA ⟨5,an,am,ex⟩ X=some ⟨X.env,X.out ++ [⟨5,0,0,n⟩],X.ins⟩:=by rw [valA_do (v:=.ok 1 n) (by simp) (by simp) (by simp) hv]; simp [doV,doK]
                  have HX2:Hid (XR=doL (l.drop (k+1)) ⟨X.env,X.out ++ [⟨5,0,0,n⟩],X.ins⟩):=Lib.hid (HXD.out.trans (doL_some hdA))
                  have HC2:=Lib.hid (HC.out.next hdA)
                  clear HXD HC hdA hv
                  go_wp2_with fail
                  refine HOF1.out.mono ?_
                  rintro e w2 ⟨hb2,he⟩
                  have he:e=.returned (.tuple #[.agg #[.int .i64 1,.int .i64 n],.int .i64 0,.int .i64 (-1)]):=he
                  subst he
                  have HD2:=Lib.hid ((HDA.out.below hb2).below (below_box w2 (.cells #[.int .i64 1,.int .i64 n] 172)))
                  have HB2:=Lib.hid ((HBA.out.trans (hb2.mono HBA.out.size)).alloc (Nat.le_trans HBA.out.size hb2.size) (.cells #[.int .i64 1,.int .i64 n] 172))
                  have HW2:=Lib.hid ((HWA.out.below hb2 HWA.out.lt).alloc (.cells #[.int .i64 1,.int .i64 n] 172))
                  obtain ⟨⟨q0,q1,q2,q3⟩,_⟩:=HW2.out.four
                  obtain ⟨⟨y0,y1⟩,_⟩:=(Blk.new w2 172 #[.int .i64 1,.int .i64 n]).facts2
                  clear hb2
                  have HD3:=Lib.hid (HD2.out.below (below_box _ (.cells #[.int .i64 5,.int .i64 0,.int .i64 0,.int .i64 n] 83)))
                  have HB3:=Lib.hid (HB2.out.alloc HB2.out.size (.cells #[.int .i64 5,.int .i64 0,.int .i64 0,.int .i64 n] 83))
                  have HW3:=Lib.hid (HW2.out.alloc (.cells #[.int .i64 5,.int .i64 0,.int .i64 0,.int .i64 n] 83))
                  have HS2:=Lib.hid HB3.out.size
                  have HN2:=Lib.hid (new_ou (w2.alloc (.cells #[.int .i64 1,.int .i64 n] 172)) ⟨5,0,0,n⟩ (w2.heap.size+1) (by simp))
                  go_wp2_with (at_builtin; refine wpList_append_own_at _ rfl _ _ 39 rfl w.heap.size 83 i1 (.agg #[.int .i64 0,.int .i64 0,.int .i64 0,.int .i64 0]) 4 32 Tryz.underlying39 JI.out JZ0.out JZ1.out JZ2.out rfl (by decide) _ _ _ rfl HD3.out.out ⟨w2.heap.size+1,0,none⟩ 1 1 (ouCells ⟨5,0,0,n⟩) rfl rfl HN2.out (ou_one _) ?c3 ?c4 ?c5 ?_)
                  case c3=>unfold maxLen; omega
                  case c4=>omega
                  case c5=>first | exact HS2.out | simpa using HS2.out
                  intro v4 w4 hown4 hgrow4 _ _
                  have HD4:=Lib.hid (HD3.out.addOut (o:=⟨5,0,0,n⟩) hgrow4 hown4)
                  have HB4:=Lib.hid (grown_below (g:=0) HB3.out HD3.out.out HS2.out hgrow4)
                  clear hown4 hgrow4
                  go_wp2_with fail
                  go_roundw
                  case rel=>exact ⟨k+1,_,by omega,by go_num,HB4,HD4,HX2,HC2⟩
                  case measure=>simp [intOf]; omega
                · have hdA:doA ⟨5,an,am,ex⟩ X=none:=by rw [valA_do (v:=.ok kk n) (by simp) (by simp) (by simp) hv]; simp [doV,h1]
                  have HX2:Hid (XR=X.amiss):=Lib.hid (HXD.out.trans (doL_none hdA))
                  clear HXD hdA
                  have ek:(kk != 1)=true:=by simpa using h1
                  clear hv h1
                  go_wp2_with fail
                  refine HOF1.out.mono ?_
                  rintro e w2 ⟨hb2,he⟩
                  have he:e=.returned (.tuple #[.agg #[.int .i64 kk,.int .i64 n],.int .i64 0,.int .i64 (-1)]):=he
                  subst he
                  have HD2:=Lib.hid ((HDA.out.below hb2).below (below_box w2 (.cells #[.int .i64 kk,.int .i64 n] 172)))
                  have HB2:=Lib.hid ((HBA.out.trans (hb2.mono HBA.out.size)).alloc (Nat.le_trans HBA.out.size hb2.size) (.cells #[.int .i64 kk,.int .i64 n] 172))
                  have HW2:=Lib.hid ((HWA.out.below hb2 HWA.out.lt).alloc (.cells #[.int .i64 kk,.int .i64 n] 172))
                  obtain ⟨⟨q0,q1,q2,q3⟩,_⟩:=HW2.out.four
                  obtain ⟨⟨y0,y1⟩,_⟩:=(Blk.new w2 172 #[.int .i64 kk,.int .i64 n]).facts2
                  clear hb2
                  have HD3:=Lib.hid (HD2.out.below (below_box _ (.cells #[.int .i64 1001] 3)))
                  have HB3:=Lib.hid (HB2.out.alloc HB2.out.size (.cells #[.int .i64 1001] 3))
                  have HS2:=Lib.hid HB3.out.size
                  have HN2:=Lib.hid (new_in (w2.alloc (.cells #[.int .i64 kk,.int .i64 n] 172)) 1001 (w2.heap.size+1) (by simp))
                  go_wp2_with (at_builtin; refine wpList_append_own_at _ rfl _ _ 36 rfl w.heap.size 3 i0 (.int .i64 0) 1 8 Tryz.underlying36 HI.out HZ0.out HZ1.out HZ2.out rfl (by decide) _ _ _ rfl HD3.out.ins ⟨w2.heap.size+1,0,none⟩ 1 1 [.int .i64 1001] rfl rfl HN2.out (num_one _) ?c3 ?c4 ?c5 ?_)
                  case c3=>unfold maxLen; omega
                  case c4=>omega
                  case c5=>first | exact HS2.out | simpa using HS2.out
                  intro v4 w4 hown4 hgrow4 _ _
                  have HD4:=Lib.hid (HD3.out.addIns (x:=1001) hgrow4 hown4)
                  have HB4:=Lib.hid (grown_below (g:=0) HB3.out HD3.out.ins HS2.out hgrow4)
                  clear hown4 hgrow4
                  go_wp2_with fail
                  refine bodyPost_ret (results_three rfl _ _ _) rfl ?_
                  exact .ofR rfl HX2.out HB4.out HD4.out
          · have hdA:doA ⟨kd,an,am,ex⟩ X=some X:=by simp [doA,h2,h4,hk135]
            have HX2:Hid (XR=doL (l.drop (k+1)) X):=Lib.hid (HXD.out.trans (doL_some hdA))
            have HC2:=Lib.hid (HC.out.next hdA)
            have e1:(kd != 1)=true:=by simp; exact fun h=>hk135 (.inl h)
            have e2:(kd == 2)=false:=by simpa using h2
            have e3:(kd != 3)=true:=by simp; exact fun h=>hk135 (.inr (.inl h))
            have e4:(kd == 4)=false:=by simpa using h4
            have e5:(kd != 5)=true:=by simp; exact fun h=>hk135 (.inr (.inr h))
            clear HXD HC HOF1 hdA h2 h4 hk135
            go_wp2_with fail
            go_roundw
            case rel=>exact ⟨k+1,X,by omega,by go_num,HBA,HDA,HX2,HC2⟩
            case measure=>simp [intOf]; omega
    · obtain rfl:k=l.length:=by omega
      have HX2:Hid (XR=X):=Lib.hid (by rw [HX.out,List.drop_length]; rfl)
      go_wp2_with fail
      refine bodyPost_ret (results_three rfl _ _ _) rfl ?_
      exact .ofR rfl HX2.out HB.out HD.out
end Go.Proofs.YtfgkcjmeiabdjaaGreatDoor
