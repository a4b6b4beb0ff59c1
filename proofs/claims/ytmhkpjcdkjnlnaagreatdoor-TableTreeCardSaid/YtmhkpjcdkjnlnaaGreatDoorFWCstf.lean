/- The contract of chart's stateFault: a state's first fault. -/
import Derived.Test.YtmhkpjcdkjnlnaaGreatDoorFWCact
import Derived.Test.YtmhkpjcdkjnlnaaGreatDoorFWCref
namespace Go.Proofs.YtmhkpjcdkjnlnaaGreatDoor
open Go.ChangeShapes Go.WideShapes Go.ChangeAt Go.RowKit
set_option linter.unusedVariables false

theorem kids_len0 (L:List Int):((L.length:Int) == 0)=decide (L.length=0):=len_dec _ 0
theorem own_len {w:World} {B:Nat} {v:Value} {L:List Int} (h:w.ownsRow B 3 1 v L.length (intVals L)):∃ A cap,v=.slice A L.length cap:=by
 rcases h.2 with ⟨h1,h0⟩ | ⟨g,cap,cur,h1,_⟩
 · exact ⟨none,0,by rw [h1,h0]⟩
 · exact ⟨_,_,h1⟩
set_option maxHeartbeats 4000000 in
theorem stF_any (s:Nat) (vs vt:Value) (C:Ch) (w:World) (hL:Laid w) (hC:ChHas w vs vt C) (hl:C.sts.length≤1000) (hs:s < C.sts.length) (hv:-1000≤C.vars) (hv2:C.vars≤1000)
 (he:Short (stAt C.sts s).ent.length) (hes:ShortActs (stAt C.sts s).ent) (hx:Short (stAt C.sts s).exi.length) (hxs:ShortActs (stAt C.sts s).exi) :
 Calls Tryz.prog 59 #[.agg #[.int .i64 C.vars,vs,vt],.int .i64 (s:Int)] w fun e w'=>e=.returned (.int .i64 (stF hasTB C.sts C.vars s))∧Below w.heap.size w w':=by
 have hsh:Short C.sts.length:=by unfold Short; omega
 have HB:=Lib.hid (below_box w (chBox C.vars vs vt))
 have H1:=Lib.hid (fun (W:World) (hb:Below w.heap.size w W)=>kindMay_any C.vars s vs vt C W (hC.below hb) hsh hs)
 have H2:=Lib.hid (fun (W:World) (hb:Below w.heap.size w W)=>parMay_any C.vars s vs vt C W (hC.below hb) hsh hs)
 have H3:=Lib.hid (fun (W:World) (hb:Below w.heap.size w W) hp=>kindIn_any C.vars s vs vt C W (hC.below hb) hsh hs hp)
 have H4:=Lib.hid (fun (W:World) (hb:Below w.heap.size w W)=>needs_any C.vars s vs vt C W (hC.below hb) hsh hs)
 have H5:=Lib.hid (fun (W:World) (hb:Below w.heap.size w W)=>kids_any C.vars s vs vt C W (hC.below hb) hl)
 have H6:=Lib.hid (fun (W:World) (hb:Below w.heap.size w W)=>ini_any C.vars s vs vt C W (hC.below hb) hsh hs)
 have H7:=Lib.hid (fun (W:World) (hb:Below w.heap.size w W)=>stActs_any s vs vt C W (hL.after hb) (hC.below hb) hsh hs hv hv2 he hes hx hxs)
 have hR:stF hasTB C.sts C.vars (s:Int)=stF hasTB C.sts C.vars (s:Int):=rfl
 conv at hR=>rhs; unfold stF
 generalize stF hasTB C.sts C.vars (s:Int)=R at *
 generalize stActsB hasTB C.sts C.vars (s:Int)=b7 at *
 generalize iniB C.sts (s:Int)=b6 at *
 have HKL:Hid ((kids C.sts (s:Int)).length≤1000):=Lib.hid (by unfold kids; have:=kidsU_len C.sts (s:Int) C.sts.length; omega)
 generalize kids C.sts (s:Int)=L at *
 generalize needsB C.sts (s:Int)=b4 at *
 generalize kindInB C.sts (s:Int)=b3 at *
 generalize parB C.sts (s:Int)=b2 at *
 generalize kindB C.sts (s:Int)=b1 at *
 have HR:=Lib.hid hR
 clear hR hL hC hs hes hxs he hx
 cases b1 with
 | false =>
  have HQ0:Hid (Below (w.alloc (chBox C.vars vs vt)).heap.size (w.alloc (chBox C.vars vs vt)) (w.alloc (chBox C.vars vs vt))):=Lib.hid (Below.refl _ _)
  go_enter Tryz.func59,Tryz.ntmps59
  go_wp2_with fail
  refine (H1.out _ (below_boxed HQ0.out)).mono ?_
  rintro e w1 ⟨rfl,hb1⟩
  have hQ1:=HQ0.out.trans (hb1.mono HQ0.out.size)
  obtain ⟨x0,x1,x2⟩:=box_later hQ1
  have HQ1:=Lib.hid hQ1
  clear hb1 hQ1
  go_wp2_with fail
  go_ret
  exact ⟨ret_int (by rw [HR.out]; rfl),below_boxed HQ1.out⟩
 | true =>
  cases b2 with
  | false =>
   have HQ0:Hid (Below (w.alloc (chBox C.vars vs vt)).heap.size (w.alloc (chBox C.vars vs vt)) (w.alloc (chBox C.vars vs vt))):=Lib.hid (Below.refl _ _)
   go_enter Tryz.func59,Tryz.ntmps59
   go_wp2_with fail
   refine (H1.out _ (below_boxed HQ0.out)).mono ?_
   rintro e w1 ⟨rfl,hb1⟩
   have hQ1:=HQ0.out.trans (hb1.mono HQ0.out.size)
   obtain ⟨x0,x1,x2⟩:=box_later hQ1
   have HQ1:=Lib.hid hQ1
   clear hb1 hQ1
   go_wp2_with fail
   refine (H2.out _ (below_boxed HQ1.out)).mono ?_
   rintro e w2 ⟨rfl,hb2⟩
   have hQ2:=HQ1.out.trans (hb2.mono HQ1.out.size)
   clear x0 x1 x2
   obtain ⟨x0,x1,x2⟩:=box_later hQ2
   have HQ2:=Lib.hid hQ2
   clear hb2 hQ2
   go_wp2_with fail
   go_ret
   exact ⟨ret_int (by rw [HR.out]; rfl),below_boxed HQ2.out⟩
  | true =>
   cases b3 with
   | false =>
    have HQ0:Hid (Below (w.alloc (chBox C.vars vs vt)).heap.size (w.alloc (chBox C.vars vs vt)) (w.alloc (chBox C.vars vs vt))):=Lib.hid (Below.refl _ _)
    go_enter Tryz.func59,Tryz.ntmps59
    go_wp2_with fail
    refine (H1.out _ (below_boxed HQ0.out)).mono ?_
    rintro e w1 ⟨rfl,hb1⟩
    have hQ1:=HQ0.out.trans (hb1.mono HQ0.out.size)
    obtain ⟨x0,x1,x2⟩:=box_later hQ1
    have HQ1:=Lib.hid hQ1
    clear hb1 hQ1
    go_wp2_with fail
    refine (H2.out _ (below_boxed HQ1.out)).mono ?_
    rintro e w2 ⟨rfl,hb2⟩
    have hQ2:=HQ1.out.trans (hb2.mono HQ1.out.size)
    clear x0 x1 x2
    obtain ⟨x0,x1,x2⟩:=box_later hQ2
    have HQ2:=Lib.hid hQ2
    clear hb2 hQ2
    go_wp2_with fail
    refine (H3.out _ (below_boxed HQ2.out) (by trivial)).mono ?_
    rintro e w3 ⟨rfl,hb3⟩
    have hQ3:=HQ2.out.trans (hb3.mono HQ2.out.size)
    clear x0 x1 x2
    obtain ⟨x0,x1,x2⟩:=box_later hQ3
    have HQ3:=Lib.hid hQ3
    clear hb3 hQ3
    go_wp2_with fail
    go_ret
    exact ⟨ret_int (by rw [HR.out]; rfl),below_boxed HQ3.out⟩
   | true =>
    cases b4 with
    | false =>
     cases b6 with
     | false =>
      have HQ0:Hid (Below (w.alloc (chBox C.vars vs vt)).heap.size (w.alloc (chBox C.vars vs vt)) (w.alloc (chBox C.vars vs vt))):=Lib.hid (Below.refl _ _)
      go_enter Tryz.func59,Tryz.ntmps59
      go_wp2_with fail
      refine (H1.out _ (below_boxed HQ0.out)).mono ?_
      rintro e w1 ⟨rfl,hb1⟩
      have hQ1:=HQ0.out.trans (hb1.mono HQ0.out.size)
      obtain ⟨x0,x1,x2⟩:=box_later hQ1
      have HQ1:=Lib.hid hQ1
      clear hb1 hQ1
      go_wp2_with fail
      refine (H2.out _ (below_boxed HQ1.out)).mono ?_
      rintro e w2 ⟨rfl,hb2⟩
      have hQ2:=HQ1.out.trans (hb2.mono HQ1.out.size)
      clear x0 x1 x2
      obtain ⟨x0,x1,x2⟩:=box_later hQ2
      have HQ2:=Lib.hid hQ2
      clear hb2 hQ2
      go_wp2_with fail
      refine (H3.out _ (below_boxed HQ2.out) (by trivial)).mono ?_
      rintro e w3 ⟨rfl,hb3⟩
      have hQ3:=HQ2.out.trans (hb3.mono HQ2.out.size)
      clear x0 x1 x2
      obtain ⟨x0,x1,x2⟩:=box_later hQ3
      have HQ3:=Lib.hid hQ3
      clear hb3 hQ3
      go_wp2_with fail
      refine (H4.out _ (below_boxed HQ3.out)).mono ?_
      rintro e w4 ⟨rfl,hb4⟩
      have hQ4:=HQ3.out.trans (hb4.mono HQ3.out.size)
      clear x0 x1 x2
      obtain ⟨x0,x1,x2⟩:=box_later hQ4
      have HQ4:=Lib.hid hQ4
      clear hb4 hQ4
      go_wp2_with fail
      refine (H6.out _ (below_boxed HQ4.out)).mono ?_
      rintro e w5 ⟨rfl,hb5⟩
      have hQ5:=HQ4.out.trans (hb5.mono HQ4.out.size)
      clear x0 x1 x2
      obtain ⟨x0,x1,x2⟩:=box_later hQ5
      have HQ5:=Lib.hid hQ5
      clear hb5 hQ5
      go_wp2_with fail
      go_ret
      exact ⟨ret_int (by rw [HR.out]; simp),below_boxed HQ5.out⟩
     | true =>
      cases b7 with
      | false =>
       have HQ0:Hid (Below (w.alloc (chBox C.vars vs vt)).heap.size (w.alloc (chBox C.vars vs vt)) (w.alloc (chBox C.vars vs vt))):=Lib.hid (Below.refl _ _)
       go_enter Tryz.func59,Tryz.ntmps59
       go_wp2_with fail
       refine (H1.out _ (below_boxed HQ0.out)).mono ?_
       rintro e w1 ⟨rfl,hb1⟩
       have hQ1:=HQ0.out.trans (hb1.mono HQ0.out.size)
       obtain ⟨x0,x1,x2⟩:=box_later hQ1
       have HQ1:=Lib.hid hQ1
       clear hb1 hQ1
       go_wp2_with fail
       refine (H2.out _ (below_boxed HQ1.out)).mono ?_
       rintro e w2 ⟨rfl,hb2⟩
       have hQ2:=HQ1.out.trans (hb2.mono HQ1.out.size)
       clear x0 x1 x2
       obtain ⟨x0,x1,x2⟩:=box_later hQ2
       have HQ2:=Lib.hid hQ2
       clear hb2 hQ2
       go_wp2_with fail
       refine (H3.out _ (below_boxed HQ2.out) (by trivial)).mono ?_
       rintro e w3 ⟨rfl,hb3⟩
       have hQ3:=HQ2.out.trans (hb3.mono HQ2.out.size)
       clear x0 x1 x2
       obtain ⟨x0,x1,x2⟩:=box_later hQ3
       have HQ3:=Lib.hid hQ3
       clear hb3 hQ3
       go_wp2_with fail
       refine (H4.out _ (below_boxed HQ3.out)).mono ?_
       rintro e w4 ⟨rfl,hb4⟩
       have hQ4:=HQ3.out.trans (hb4.mono HQ3.out.size)
       clear x0 x1 x2
       obtain ⟨x0,x1,x2⟩:=box_later hQ4
       have HQ4:=Lib.hid hQ4
       clear hb4 hQ4
       go_wp2_with fail
       refine (H6.out _ (below_boxed HQ4.out)).mono ?_
       rintro e w5 ⟨rfl,hb5⟩
       have hQ5:=HQ4.out.trans (hb5.mono HQ4.out.size)
       clear x0 x1 x2
       obtain ⟨x0,x1,x2⟩:=box_later hQ5
       have HQ5:=Lib.hid hQ5
       clear hb5 hQ5
       go_wp2_with fail
       refine (H7.out _ (below_boxed HQ5.out)).mono ?_
       rintro e w6 ⟨rfl,hb6⟩
       have hQ6:=HQ5.out.trans (hb6.mono HQ5.out.size)
       clear x0 x1 x2
       obtain ⟨x0,x1,x2⟩:=box_later hQ6
       have HQ6:=Lib.hid hQ6
       clear hb6 hQ6
       go_wp2_with fail
       go_ret
       exact ⟨ret_int (by rw [HR.out]; simp),below_boxed HQ6.out⟩
      | true =>
       have HQ0:Hid (Below (w.alloc (chBox C.vars vs vt)).heap.size (w.alloc (chBox C.vars vs vt)) (w.alloc (chBox C.vars vs vt))):=Lib.hid (Below.refl _ _)
       go_enter Tryz.func59,Tryz.ntmps59
       go_wp2_with fail
       refine (H1.out _ (below_boxed HQ0.out)).mono ?_
       rintro e w1 ⟨rfl,hb1⟩
       have hQ1:=HQ0.out.trans (hb1.mono HQ0.out.size)
       obtain ⟨x0,x1,x2⟩:=box_later hQ1
       have HQ1:=Lib.hid hQ1
       clear hb1 hQ1
       go_wp2_with fail
       refine (H2.out _ (below_boxed HQ1.out)).mono ?_
       rintro e w2 ⟨rfl,hb2⟩
       have hQ2:=HQ1.out.trans (hb2.mono HQ1.out.size)
       clear x0 x1 x2
       obtain ⟨x0,x1,x2⟩:=box_later hQ2
       have HQ2:=Lib.hid hQ2
       clear hb2 hQ2
       go_wp2_with fail
       refine (H3.out _ (below_boxed HQ2.out) (by trivial)).mono ?_
       rintro e w3 ⟨rfl,hb3⟩
       have hQ3:=HQ2.out.trans (hb3.mono HQ2.out.size)
       clear x0 x1 x2
       obtain ⟨x0,x1,x2⟩:=box_later hQ3
       have HQ3:=Lib.hid hQ3
       clear hb3 hQ3
       go_wp2_with fail
       refine (H4.out _ (below_boxed HQ3.out)).mono ?_
       rintro e w4 ⟨rfl,hb4⟩
       have hQ4:=HQ3.out.trans (hb4.mono HQ3.out.size)
       clear x0 x1 x2
       obtain ⟨x0,x1,x2⟩:=box_later hQ4
       have HQ4:=Lib.hid hQ4
       clear hb4 hQ4
       go_wp2_with fail
       refine (H6.out _ (below_boxed HQ4.out)).mono ?_
       rintro e w5 ⟨rfl,hb5⟩
       have hQ5:=HQ4.out.trans (hb5.mono HQ4.out.size)
       clear x0 x1 x2
       obtain ⟨x0,x1,x2⟩:=box_later hQ5
       have HQ5:=Lib.hid hQ5
       clear hb5 hQ5
       go_wp2_with fail
       refine (H7.out _ (below_boxed HQ5.out)).mono ?_
       rintro e w6 ⟨rfl,hb6⟩
       have hQ6:=HQ5.out.trans (hb6.mono HQ5.out.size)
       clear x0 x1 x2
       obtain ⟨x0,x1,x2⟩:=box_later hQ6
       have HQ6:=Lib.hid hQ6
       clear hb6 hQ6
       go_wp2_with fail
       go_ret
       exact ⟨ret_int (by rw [HR.out]; simp),below_boxed HQ6.out⟩
    | true =>
     by_cases h0:L.length=0
     · have h02:((L.length:Int) == 0)=true:=by rw [kids_len0]; simpa using h0
       have H0:=Lib.hid h0
       clear h0
       have HQ0:Hid (Below (w.alloc (chBox C.vars vs vt)).heap.size (w.alloc (chBox C.vars vs vt)) (w.alloc (chBox C.vars vs vt))):=Lib.hid (Below.refl _ _)
       go_enter Tryz.func59,Tryz.ntmps59
       go_wp2_with fail
       refine (H1.out _ (below_boxed HQ0.out)).mono ?_
       rintro e w1 ⟨rfl,hb1⟩
       have hQ1:=HQ0.out.trans (hb1.mono HQ0.out.size)
       obtain ⟨x0,x1,x2⟩:=box_later hQ1
       have HQ1:=Lib.hid hQ1
       clear hb1 hQ1
       go_wp2_with fail
       refine (H2.out _ (below_boxed HQ1.out)).mono ?_
       rintro e w2 ⟨rfl,hb2⟩
       have hQ2:=HQ1.out.trans (hb2.mono HQ1.out.size)
       clear x0 x1 x2
       obtain ⟨x0,x1,x2⟩:=box_later hQ2
       have HQ2:=Lib.hid hQ2
       clear hb2 hQ2
       go_wp2_with fail
       refine (H3.out _ (below_boxed HQ2.out) (by trivial)).mono ?_
       rintro e w3 ⟨rfl,hb3⟩
       have hQ3:=HQ2.out.trans (hb3.mono HQ2.out.size)
       clear x0 x1 x2
       obtain ⟨x0,x1,x2⟩:=box_later hQ3
       have HQ3:=Lib.hid hQ3
       clear hb3 hQ3
       go_wp2_with fail
       refine (H4.out _ (below_boxed HQ3.out)).mono ?_
       rintro e w4 ⟨rfl,hb4⟩
       have hQ4:=HQ3.out.trans (hb4.mono HQ3.out.size)
       clear x0 x1 x2
       obtain ⟨x0,x1,x2⟩:=box_later hQ4
       have HQ4:=Lib.hid hQ4
       clear hb4 hQ4
       go_wp2_with fail
       refine (H5.out _ (below_boxed HQ4.out)).mono ?_
       rintro e w5 ⟨hb5,v,rfl,hown⟩
       obtain ⟨kA,kcap,rfl⟩:=own_len hown
       have hkl:=HKL.out
       have hQ5:=HQ4.out.trans (hb5.mono HQ4.out.size)
       clear x0 x1 x2
       obtain ⟨x0,x1,x2⟩:=box_later hQ5
       have HQ5:=Lib.hid hQ5
       clear hb5 hQ5 hown
       go_wp2_with fail
       go_ret
       exact ⟨ret_int (by rw [HR.out]; simp [H0.out]),below_boxed HQ5.out⟩
     · have h02:((L.length:Int) == 0)=false:=by rw [kids_len0]; simpa using h0
       have H0:=Lib.hid h0
       clear h0
       cases b6 with
       | false =>
        have HQ0:Hid (Below (w.alloc (chBox C.vars vs vt)).heap.size (w.alloc (chBox C.vars vs vt)) (w.alloc (chBox C.vars vs vt))):=Lib.hid (Below.refl _ _)
        go_enter Tryz.func59,Tryz.ntmps59
        go_wp2_with fail
        refine (H1.out _ (below_boxed HQ0.out)).mono ?_
        rintro e w1 ⟨rfl,hb1⟩
        have hQ1:=HQ0.out.trans (hb1.mono HQ0.out.size)
        obtain ⟨x0,x1,x2⟩:=box_later hQ1
        have HQ1:=Lib.hid hQ1
        clear hb1 hQ1
        go_wp2_with fail
        refine (H2.out _ (below_boxed HQ1.out)).mono ?_
        rintro e w2 ⟨rfl,hb2⟩
        have hQ2:=HQ1.out.trans (hb2.mono HQ1.out.size)
        clear x0 x1 x2
        obtain ⟨x0,x1,x2⟩:=box_later hQ2
        have HQ2:=Lib.hid hQ2
        clear hb2 hQ2
        go_wp2_with fail
        refine (H3.out _ (below_boxed HQ2.out) (by trivial)).mono ?_
        rintro e w3 ⟨rfl,hb3⟩
        have hQ3:=HQ2.out.trans (hb3.mono HQ2.out.size)
        clear x0 x1 x2
        obtain ⟨x0,x1,x2⟩:=box_later hQ3
        have HQ3:=Lib.hid hQ3
        clear hb3 hQ3
        go_wp2_with fail
        refine (H4.out _ (below_boxed HQ3.out)).mono ?_
        rintro e w4 ⟨rfl,hb4⟩
        have hQ4:=HQ3.out.trans (hb4.mono HQ3.out.size)
        clear x0 x1 x2
        obtain ⟨x0,x1,x2⟩:=box_later hQ4
        have HQ4:=Lib.hid hQ4
        clear hb4 hQ4
        go_wp2_with fail
        refine (H5.out _ (below_boxed HQ4.out)).mono ?_
        rintro e w5 ⟨hb5,v,rfl,hown⟩
        obtain ⟨kA,kcap,rfl⟩:=own_len hown
        have hkl:=HKL.out
        have hQ5:=HQ4.out.trans (hb5.mono HQ4.out.size)
        clear x0 x1 x2
        obtain ⟨x0,x1,x2⟩:=box_later hQ5
        have HQ5:=Lib.hid hQ5
        clear hb5 hQ5 hown
        go_wp2_with fail
        refine (H6.out _ (below_boxed HQ5.out)).mono ?_
        rintro e w6 ⟨rfl,hb6⟩
        have hQ6:=HQ5.out.trans (hb6.mono HQ5.out.size)
        clear x0 x1 x2
        obtain ⟨x0,x1,x2⟩:=box_later hQ6
        have HQ6:=Lib.hid hQ6
        clear hb6 hQ6
        go_wp2_with fail
        go_ret
        exact ⟨ret_int (by rw [HR.out]; simp [H0.out]),below_boxed HQ6.out⟩
       | true =>
        cases b7 with
        | false =>
         have HQ0:Hid (Below (w.alloc (chBox C.vars vs vt)).heap.size (w.alloc (chBox C.vars vs vt)) (w.alloc (chBox C.vars vs vt))):=Lib.hid (Below.refl _ _)
         go_enter Tryz.func59,Tryz.ntmps59
         go_wp2_with fail
         refine (H1.out _ (below_boxed HQ0.out)).mono ?_
         rintro e w1 ⟨rfl,hb1⟩
         have hQ1:=HQ0.out.trans (hb1.mono HQ0.out.size)
         obtain ⟨x0,x1,x2⟩:=box_later hQ1
         have HQ1:=Lib.hid hQ1
         clear hb1 hQ1
         go_wp2_with fail
         refine (H2.out _ (below_boxed HQ1.out)).mono ?_
         rintro e w2 ⟨rfl,hb2⟩
         have hQ2:=HQ1.out.trans (hb2.mono HQ1.out.size)
         clear x0 x1 x2
         obtain ⟨x0,x1,x2⟩:=box_later hQ2
         have HQ2:=Lib.hid hQ2
         clear hb2 hQ2
         go_wp2_with fail
         refine (H3.out _ (below_boxed HQ2.out) (by trivial)).mono ?_
         rintro e w3 ⟨rfl,hb3⟩
         have hQ3:=HQ2.out.trans (hb3.mono HQ2.out.size)
         clear x0 x1 x2
         obtain ⟨x0,x1,x2⟩:=box_later hQ3
         have HQ3:=Lib.hid hQ3
         clear hb3 hQ3
         go_wp2_with fail
         refine (H4.out _ (below_boxed HQ3.out)).mono ?_
         rintro e w4 ⟨rfl,hb4⟩
         have hQ4:=HQ3.out.trans (hb4.mono HQ3.out.size)
         clear x0 x1 x2
         obtain ⟨x0,x1,x2⟩:=box_later hQ4
         have HQ4:=Lib.hid hQ4
         clear hb4 hQ4
         go_wp2_with fail
         refine (H5.out _ (below_boxed HQ4.out)).mono ?_
         rintro e w5 ⟨hb5,v,rfl,hown⟩
         obtain ⟨kA,kcap,rfl⟩:=own_len hown
         have hkl:=HKL.out
         have hQ5:=HQ4.out.trans (hb5.mono HQ4.out.size)
         clear x0 x1 x2
         obtain ⟨x0,x1,x2⟩:=box_later hQ5
         have HQ5:=Lib.hid hQ5
         clear hb5 hQ5 hown
         go_wp2_with fail
         refine (H6.out _ (below_boxed HQ5.out)).mono ?_
         rintro e w6 ⟨rfl,hb6⟩
         have hQ6:=HQ5.out.trans (hb6.mono HQ5.out.size)
         clear x0 x1 x2
         obtain ⟨x0,x1,x2⟩:=box_later hQ6
         have HQ6:=Lib.hid hQ6
         clear hb6 hQ6
         go_wp2_with fail
         refine (H7.out _ (below_boxed HQ6.out)).mono ?_
         rintro e w7 ⟨rfl,hb7⟩
         have hQ7:=HQ6.out.trans (hb7.mono HQ6.out.size)
         clear x0 x1 x2
         obtain ⟨x0,x1,x2⟩:=box_later hQ7
         have HQ7:=Lib.hid hQ7
         clear hb7 hQ7
         go_wp2_with fail
         go_ret
         exact ⟨ret_int (by rw [HR.out]; simp [H0.out]),below_boxed HQ7.out⟩
        | true =>
         have HQ0:Hid (Below (w.alloc (chBox C.vars vs vt)).heap.size (w.alloc (chBox C.vars vs vt)) (w.alloc (chBox C.vars vs vt))):=Lib.hid (Below.refl _ _)
         go_enter Tryz.func59,Tryz.ntmps59
         go_wp2_with fail
         refine (H1.out _ (below_boxed HQ0.out)).mono ?_
         rintro e w1 ⟨rfl,hb1⟩
         have hQ1:=HQ0.out.trans (hb1.mono HQ0.out.size)
         obtain ⟨x0,x1,x2⟩:=box_later hQ1
         have HQ1:=Lib.hid hQ1
         clear hb1 hQ1
         go_wp2_with fail
         refine (H2.out _ (below_boxed HQ1.out)).mono ?_
         rintro e w2 ⟨rfl,hb2⟩
         have hQ2:=HQ1.out.trans (hb2.mono HQ1.out.size)
         clear x0 x1 x2
         obtain ⟨x0,x1,x2⟩:=box_later hQ2
         have HQ2:=Lib.hid hQ2
         clear hb2 hQ2
         go_wp2_with fail
         refine (H3.out _ (below_boxed HQ2.out) (by trivial)).mono ?_
         rintro e w3 ⟨rfl,hb3⟩
         have hQ3:=HQ2.out.trans (hb3.mono HQ2.out.size)
         clear x0 x1 x2
         obtain ⟨x0,x1,x2⟩:=box_later hQ3
         have HQ3:=Lib.hid hQ3
         clear hb3 hQ3
         go_wp2_with fail
         refine (H4.out _ (below_boxed HQ3.out)).mono ?_
         rintro e w4 ⟨rfl,hb4⟩
         have hQ4:=HQ3.out.trans (hb4.mono HQ3.out.size)
         clear x0 x1 x2
         obtain ⟨x0,x1,x2⟩:=box_later hQ4
         have HQ4:=Lib.hid hQ4
         clear hb4 hQ4
         go_wp2_with fail
         refine (H5.out _ (below_boxed HQ4.out)).mono ?_
         rintro e w5 ⟨hb5,v,rfl,hown⟩
         obtain ⟨kA,kcap,rfl⟩:=own_len hown
         have hkl:=HKL.out
         have hQ5:=HQ4.out.trans (hb5.mono HQ4.out.size)
         clear x0 x1 x2
         obtain ⟨x0,x1,x2⟩:=box_later hQ5
         have HQ5:=Lib.hid hQ5
         clear hb5 hQ5 hown
         go_wp2_with fail
         refine (H6.out _ (below_boxed HQ5.out)).mono ?_
         rintro e w6 ⟨rfl,hb6⟩
         have hQ6:=HQ5.out.trans (hb6.mono HQ5.out.size)
         clear x0 x1 x2
         obtain ⟨x0,x1,x2⟩:=box_later hQ6
         have HQ6:=Lib.hid hQ6
         clear hb6 hQ6
         go_wp2_with fail
         refine (H7.out _ (below_boxed HQ6.out)).mono ?_
         rintro e w7 ⟨rfl,hb7⟩
         have hQ7:=HQ6.out.trans (hb7.mono HQ6.out.size)
         clear x0 x1 x2
         obtain ⟨x0,x1,x2⟩:=box_later hQ7
         have HQ7:=Lib.hid hQ7
         clear hb7 hQ7
         go_wp2_with fail
         go_ret
         exact ⟨ret_int (by rw [HR.out]; simp [H0.out]),below_boxed HQ7.out⟩
end Go.Proofs.YtmhkpjcdkjnlnaaGreatDoor
