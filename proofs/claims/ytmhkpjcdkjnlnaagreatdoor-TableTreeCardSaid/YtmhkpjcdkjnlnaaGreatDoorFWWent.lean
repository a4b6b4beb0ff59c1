/- The contract of making's entered: what is entered by default for a state, where those behind it are ready. -/
import Derived.Test.YtmhkpjcdkjnlnaaGreatDoorFWWmk
namespace Go.Proofs.YtmhkpjcdkjnlnaaGreatDoor
open Go.ChangeShapes Go.WideShapes Go.ChangeAt Go.RowKit
set_option linter.unusedVariables false

theorem bset_one {n k:Nat} (hk:k < n):bset (addS (fun _=>false) (k:Int)) n=2 ^ k:=by
 have:=bset_add (fun _=>false) n k hk
 rw [bset_empty] at this
 rw [← this]
 simp
theorem one_or (Q:Nat→Bool) {n k:Nat} (hn:n≤31) (hk:k < n):bits .or .u32 ((2:Int) ^ k) ((bset Q n:Nat):Int)=((bset (orS (addS (fun _=>false) (k:Int)) Q) n:Nat):Int):=by
 have h2:((2:Int) ^ k)=((2 ^ k:Nat):Int):=by simp
 rw [h2,← bset_one hk,wor_sets _ _ n hn]
section
variable {t g:Nat} {vs vt:Value} {C:Ch} {w:World}
set_option maxHeartbeats 8000000 in
set_option maxRecDepth 100000 in
theorem entered_any (s:Nat) (hM:WMk w t g vs vt C (s+1)) (hta:Tame C.sts) (hR:Rooted C.sts) (hs:s < C.sts.length) :
 Calls Tryz.prog 83 #[mkV t g vs vt C,.int .i64 (s:Int)] w fun e w'=>e=.returned (.int .u32 ((bset (defT C.sts (s:Int)) C.sts.length:Nat):Int))∧Below w.heap.size w w':=by
 have hlen:=hta.len
 have hi:=isSt_of hs
 have HB0:=Lib.hid (below_box w (mkBox t g vs vt C))
 have HKD:=Lib.hid (kindT_any t (s:Int) C _ (hM.tree.below HB0.out) (by omega))
 have hkd:kindT C.sts (s:Int)=(stAt C.sts (s:Int)).kind:=by unfold kindT; rw [if_pos hi]
 rw [hkd] at HKD
 have HLA:Hid (∀ W,Below (w.alloc (mkBox t g vs vt C)).heap.size (w.alloc (mkBox t g vs vt C)) W→W.cell? ⟨w.heap.size,0,none⟩=some (.pointer (some ⟨t,0,none⟩))∧W.cell? ⟨w.heap.size,1,none⟩=some (.int .i64 C.vars)∧W.cell? ⟨w.heap.size,2,none⟩=some vs∧W.cell? ⟨w.heap.size,3,none⟩=some vt∧W.cell? ⟨w.heap.size,4,none⟩=some (.slice (some ⟨g,0,none⟩) C.sts.length C.sts.length)):=Lib.hid fun W hb=>mk_later hb
 have HM:=Lib.hid hM
 have HTA:=Lib.hid hta
 have HRT:=Lib.hid hR
 obtain ⟨x0,x1,x2,x3,x4⟩:=HLA.out _ (Below.refl _ _)
 by_cases h2:(stAt C.sts (s:Int)).kind=2
 · obtain ⟨f,hf1,hf2,hf3,hf4,hf5⟩:=defT_comp hta hi h2
   rw [h2] at HKD
   have HIN:=Lib.hid (fun (W:World) (hb:Below w.heap.size w W)=>initial_any (hM.below hb) hta hR s hs (Nat.le_refl _) f hf1 hf2 hf4)
   have HOR:=Lib.hid (one_or (upT C.sts (defT C.sts) (s:Int) (ups C.sts f) (defT C.sts f)) (n:=C.sts.length) (by omega) hs)
   rw [← hf5] at HOR
   generalize bset (upT C.sts (defT C.sts) (s:Int) (ups C.sts f) (defT C.sts f)) C.sts.length=B at *
   obtain ⟨sA,scap,tA,tcap,rfl,rfl⟩:=hM.chart.slices
   clear hM hta hR h2 hf1 hf2 hf3 hf4 hf5 hkd
   go_enter Tryz.func83,Tryz.ntmps83
   go_wp2_with fail
   refine HKD.out.mono ?_
   rintro e w1 ⟨rfl,rfl⟩
   go_wp2_with fail
   refine anyD_start (fun W=>W.cell? ⟨w.heap.size,0,none⟩=some (.pointer (some ⟨t,0,none⟩))∧W.cell? ⟨w.heap.size,1,none⟩=some (.int .i64 C.vars)∧W.cell? ⟨w.heap.size,2,none⟩=some (.slice sA C.sts.length scap)∧W.cell? ⟨w.heap.size,3,none⟩=some (.slice tA C.trs.length tcap)∧W.cell? ⟨w.heap.size,4,none⟩=some (.slice (some ⟨g,0,none⟩) C.sts.length C.sts.length)) (fun i=>[].contains i) (by kernel_rfl) ?_
   try simp only [Act.put,sx]
   have HBD:=Lib.hid (Below.drew (Below.refl (w.alloc (mkBox t g (.slice sA C.sts.length scap) (.slice tA C.trs.length tcap) C)).heap.size (w.alloc (mkBox t g (.slice sA C.sts.length scap) (.slice tA C.trs.length tcap) C))))
   generalize (w.alloc (mkBox t g (.slice sA C.sts.length scap) (.slice tA C.trs.length tcap) C)).drew=w2 at *
   have hcs:=HLA.out _ HBD.out
   clear x0 x1 x2 x3 x4
   refine anyD_t 0 (.int .i64 (s:Int)) ?_
   try simp only [Act.put,sx]
   refine anyD_l 2 (mkV t g (.slice sA C.sts.length scap) (.slice tA C.trs.length tcap) C) (hcs) ?_
   try simp only [Act.put,sx]
   refine anyD_t 3 (.int .i64 (s:Int)) ?_
   try simp only [Act.put,sx]
   refine anyD_one (i:=1) rfl rfl (by kernel_rfl) (fun K HK=>?_)
   go_simp
   refine (bitW_any s (by omega) _).mono ?_
   rintro e w3 ⟨rfl,rfl⟩
   go_simp
   refine HK.out _ _ (fun _ hS=>hcs) ?_
   clear HK K
   try simp only [Act.put,sx]
   refine anyD_one (i:=4) rfl rfl (by kernel_rfl) (fun K HK=>?_)
   go_simp
   refine (HIN.out _ (below_boxed HBD.out)).mono ?_
   rintro e w3 ⟨rfl,hb3⟩
   have HB3:=Lib.hid (HBD.out.trans (hb3.mono HBD.out.size))
   have hcs3:=HLA.out _ HB3.out
   clear hb3 hcs
   go_simp
   refine HK.out _ _ (fun _ hS=>hcs3) ?_
   clear HK K
   try simp only [Act.put,sx]
   have hOR:=HOR.out
   refine anyD_t 5 (.int .u32 ((bset (defT C.sts (s:Int)) C.sts.length:Nat):Int)) ?_
   try simp only [Act.put,sx]
   refine anyD_t 6 (.int .u32 ((bset (defT C.sts (s:Int)) C.sts.length:Nat):Int)) ?_
   try simp only [Act.put,sx]
   refine anyD_done (by kernel_rfl) ?_
   go_wp2_with fail
   go_ret
   exact ⟨rfl,below_boxed HB3.out⟩
 · by_cases h3:(stAt C.sts (s:Int)).kind=3
   · have hd:=defT_par hta hi h3
     rw [h3] at HKD
     have HIN:=Lib.hid (fun (W:World) (hb:Below w.heap.size w W)=>by
      have h:=missing_any (hM.below hb) hta (s:Int) (fun k hk h=>by have:=kid_after hta hk h (by omega); omega) (fun _=>false) (fun k hk=>by cases hk)
      have h0:((bset (fun _=>false) C.sts.length:Nat):Int)=0:=by rw [bset_empty]; rfl
      rw [h0] at h
      exact h)
     have HOR:=Lib.hid (one_or (missW C.sts (defT C.sts) (s:Int) (fun _=>false)) (n:=C.sts.length) (by omega) hs)
     rw [← hd] at HOR
     generalize bset (missW C.sts (defT C.sts) (s:Int) (fun _=>false)) C.sts.length=B at *
     obtain ⟨sA,scap,tA,tcap,rfl,rfl⟩:=hM.chart.slices
     clear hM hta hR h2 h3 hd hkd
     go_enter Tryz.func83,Tryz.ntmps83
     go_wp2_with fail
     refine HKD.out.mono ?_
     rintro e w1 ⟨rfl,rfl⟩
     go_wp2_with fail
     refine anyD_start (fun W=>W.cell? ⟨w.heap.size,0,none⟩=some (.pointer (some ⟨t,0,none⟩))∧W.cell? ⟨w.heap.size,1,none⟩=some (.int .i64 C.vars)∧W.cell? ⟨w.heap.size,2,none⟩=some (.slice sA C.sts.length scap)∧W.cell? ⟨w.heap.size,3,none⟩=some (.slice tA C.trs.length tcap)∧W.cell? ⟨w.heap.size,4,none⟩=some (.slice (some ⟨g,0,none⟩) C.sts.length C.sts.length)) (fun i=>[].contains i) (by kernel_rfl) ?_
     try simp only [Act.put,sx]
     have HBD:=Lib.hid (Below.drew (Below.refl (w.alloc (mkBox t g (.slice sA C.sts.length scap) (.slice tA C.trs.length tcap) C)).heap.size (w.alloc (mkBox t g (.slice sA C.sts.length scap) (.slice tA C.trs.length tcap) C))))
     generalize (w.alloc (mkBox t g (.slice sA C.sts.length scap) (.slice tA C.trs.length tcap) C)).drew=w2 at *
     have hcs:=HLA.out _ HBD.out
     clear x0 x1 x2 x3 x4
     refine anyD_t 0 (.int .i64 (s:Int)) ?_
     try simp only [Act.put,sx]
     refine anyD_l 2 (mkV t g (.slice sA C.sts.length scap) (.slice tA C.trs.length tcap) C) (hcs) ?_
     try simp only [Act.put,sx]
     refine anyD_t 3 (.int .i64 (s:Int)) ?_
     try simp only [Act.put,sx]
     refine anyD_one (i:=1) rfl rfl (by kernel_rfl) (fun K HK=>?_)
     go_simp
     refine (bitW_any s (by omega) _).mono ?_
     rintro e w3 ⟨rfl,rfl⟩
     go_simp
     refine HK.out _ _ (fun _ hS=>hcs) ?_
     clear HK K
     try simp only [Act.put,sx]
     refine anyD_one (i:=4) rfl rfl (by kernel_rfl) (fun K HK=>?_)
     go_simp
     refine (HIN.out _ (below_boxed HBD.out)).mono ?_
     rintro e w3 ⟨rfl,hb3⟩
     have HB3:=Lib.hid (HBD.out.trans (hb3.mono HBD.out.size))
     have hcs3:=HLA.out _ HB3.out
     clear hb3 hcs
     go_simp
     refine HK.out _ _ (fun _ hS=>hcs3) ?_
     clear HK K
     try simp only [Act.put,sx]
     have hOR:=HOR.out
     refine anyD_t 5 (.int .u32 ((bset (defT C.sts (s:Int)) C.sts.length:Nat):Int)) ?_
     try simp only [Act.put,sx]
     refine anyD_t 6 (.int .u32 ((bset (defT C.sts (s:Int)) C.sts.length:Nat):Int)) ?_
     try simp only [Act.put,sx]
     refine anyD_done (by kernel_rfl) ?_
     go_wp2_with fail
     go_ret
     exact ⟨rfl,below_boxed HB3.out⟩
   · cases hh:histB (stAt C.sts (s:Int)).kind with
     | true =>
      have hd:((bset (defT C.sts (s:Int)) C.sts.length:Nat):Int)=0:=by unfold defT; rw [if_pos hh,bset_empty]; rfl
      have HD:=Lib.hid hd
      have hk56:(stAt C.sts (s:Int)).kind=5 ∨ (stAt C.sts (s:Int)).kind=6:=by
       unfold histB at hh
       simpa using hh
      obtain ⟨sA,scap,tA,tcap,rfl,rfl⟩:=hM.chart.slices
      clear hM hta hR h2 h3 hd hkd hh
      rcases hk56 with hk | hk
      · rw [hk] at HKD
        clear hk
        go_enter Tryz.func83,Tryz.ntmps83
        go_wp2_with fail
        refine HKD.out.mono ?_
        rintro e w1 ⟨rfl,rfl⟩
        go_wp2_with fail
        go_ret
        exact ⟨ret_int (by rw [HD.out]),HB0.out⟩
      · rw [hk] at HKD
        clear hk
        go_enter Tryz.func83,Tryz.ntmps83
        go_wp2_with fail
        refine HKD.out.mono ?_
        rintro e w1 ⟨rfl,rfl⟩
        go_wp2_with fail
        go_ret
        exact ⟨ret_int (by rw [HD.out]),HB0.out⟩
     | false =>
      have hd:=defT_leaf hi hh h2 h3
      have hd2:((bset (defT C.sts (s:Int)) C.sts.length:Nat):Int)=((2 ^ s:Nat):Int):=by rw [hd,bset_one hs]
      have HD:=Lib.hid hd2
      have k2:((stAt C.sts (s:Int)).kind == 2)=false:=by simpa using h2
      have k3:((stAt C.sts (s:Int)).kind == 3)=false:=by simpa using h3
      have k5:((stAt C.sts (s:Int)).kind == 5)=false:=by
       unfold histB at hh
       simp at hh
       simpa using hh.1
      have k6:((stAt C.sts (s:Int)).kind == 6)=false:=by
       unfold histB at hh
       simp at hh
       simpa using hh.2
      obtain ⟨sA,scap,tA,tcap,rfl,rfl⟩:=hM.chart.slices
      generalize (stAt C.sts (s:Int)).kind=kd at *
      clear hM hta hR h2 h3 hd hd2 hkd hh
      go_enter Tryz.func83,Tryz.ntmps83
      go_wp2_with fail
      refine HKD.out.mono ?_
      rintro e w1 ⟨rfl,rfl⟩
      go_wp2_with fail
      refine (bitW_any s (by omega) _).mono ?_
      rintro e w3 ⟨rfl,rfl⟩
      go_wp2_with fail
      go_ret
      exact ⟨ret_int (by rw [HD.out] <;> simp),HB0.out⟩
end
end Go.Proofs.YtmhkpjcdkjnlnaaGreatDoor
