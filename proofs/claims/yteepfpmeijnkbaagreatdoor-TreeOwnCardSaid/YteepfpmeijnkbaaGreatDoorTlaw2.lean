/- The walk of the law TreeOwn: true for any chart. -/
import Derived.Test.YteepfpmeijnkbaaGreatDoorTow
import Derived.Test.YteepfpmeijnkbaaGreatDoorTlaw1
import Derived.Deep.DrawnRows
namespace Go.Proofs.YteepfpmeijnkbaaGreatDoor
open Go.ChangeShapes Go.WideShapes Go.ChangeAt Go.RowKit
set_option linter.unusedVariables false
attribute [local go_sem ↓] Go.wp_at_zero Go.wp_at_succ

theorem OwnLen.slice {B : Nat} {w : World} {v : Value} (h : OwnLen B w v) : ∃ A n cap, v = .slice A n cap ∧ n ≤ 1000 ∧ n ≤ cap := by
  rcases h with h | ⟨g, n, cap, cur, h1, _, _, h4, _, h6, _⟩
  · exact ⟨none, 0, 0, h, by omega, Nat.le_refl _⟩
  · exact ⟨_, n, cap, h1, h6, h4⟩
set_option maxHeartbeats 4000000 in
set_option maxRecDepth 100000 in
theorem tlaw2_any (vs vt : Value) (C : Ch) (w : World) (hL : Laid w) (hC : ChHas w vs vt C) (hS : ShortCh C) :
    Calls Tryz.prog 4 #[.agg #[.int .i64 C.vars, vs, vt]] w fun e w' => e = .returned (.bool true) ∧ Below w.heap.size w w' := by
  obtain ⟨sA, scap, tA, tcap, rfl, rfl⟩ := hC.slices
  have HL := Lib.hid hL
  have HL0 := Lib.hid (hL.after (below_box w (chBox C.vars (.slice sA C.sts.length scap) (.slice tA C.trs.length tcap))))
  have HF := Lib.hid (fun (W : World) (h : Below (w.alloc (chBox C.vars (.slice sA C.sts.length scap) (.slice tA C.trs.length tcap))).heap.size (w.alloc (chBox C.vars (.slice sA C.sts.length scap) (.slice tA C.trs.length tcap))) W) => few_any C.vars (.slice sA C.sts.length scap) (.slice tA C.trs.length tcap) C W (hC.below (below_boxed h)) hS)
  have HC := Lib.hid hC
  have HCH := Lib.hid (fun (W : World) (hF : fewB C = true) (h : Below (w.alloc (chBox C.vars (.slice sA C.sts.length scap) (.slice tA C.trs.length tcap))).heap.size (w.alloc (chBox C.vars (.slice sA C.sts.length scap) (.slice tA C.trs.length tcap))) W) => new_any (.slice sA C.sts.length scap) (.slice tA C.trs.length tcap) C W (hL.after (below_boxed h)) (hC.below (below_boxed h)) hF)
  have hnn := neq_nil_nil
  have hnc := fun p W => neq_code_any p W
  have hns := fun p W => neq_spot_any p W
  clear hL hC hS
  cases hf : fewB C with
  | false =>
    have HFF := Lib.hid hf
    clear hf
    go_enter Tryz.func4, Tryz.ntmps4
    go_wp2_with fail
    refine (upT_any _ HL0.out).mono ?_
    rintro e w1 ⟨rfl, hb1⟩
    obtain ⟨x0, x1, x2⟩ := box_later hb1
    have HB1 := Lib.hid hb1
    clear hb1
    go_wp2_with fail
    refine (HF.out _ HB1.out).mono ?_
    rintro e w2 ⟨rfl, hb2⟩
    have HB2 := Lib.hid (HB1.out.trans (hb2.mono HB1.out.size))
    rw [HFF.out]
    clear hb2
    go_wp2_with fail
    go_ret
    exact ⟨rfl, below_boxed HB2.out⟩
  | true =>
    have HCK := Lib.hid (fun W => HCH.out W hf)
    have HFF := Lib.hid hf
    clear hf HCH
    by_cases hok : chk hasTB C = .ok
    · have HOK := Lib.hid hok
      have HRT := Lib.hid (rooted_of hok)
      have hsz := (chk_ok hok).1
      have hlen : C.sts.length ≤ 24 := by
        unfold sizedB at hsz
        simp only [Bool.and_eq_true, decide_eq_true_eq, fromB_true] at hsz
        omega
      clear hok hsz
      go_enter Tryz.func4, Tryz.ntmps4
      go_wp2_with fail
      refine (upT_any _ HL0.out).mono ?_
      rintro e w1 ⟨rfl, hb1⟩
      obtain ⟨x0, x1, x2⟩ := box_later hb1
      have HB1 := Lib.hid hb1
      clear hb1
      go_wp2_with fail
      refine (HF.out _ HB1.out).mono ?_
      rintro e w2 ⟨rfl, hb2⟩
      have hB2 := HB1.out.trans (hb2.mono HB1.out.size)
      clear x0 x1 x2
      obtain ⟨x0, x1, x2⟩ := box_later hB2
      have HB2 := Lib.hid hB2
      rw [HFF.out]
      clear hb2 hB2
      go_wp2_with fail
      refine (HCK.out _ HB2.out).mono ?_
      intro e w3 hp
      obtain ⟨hb3, t, rfl, ht, hT⟩ := hp.ok HOK.out
      have HB3 := Lib.hid (HB2.out.trans (hb3.mono HB2.out.size))
      have HT := Lib.hid hT
      clear hb3 hp hT ht x0 x1 x2
      go_wp2_with fail
      have htl : C.trs.length ≤ 60 := (few_parts HFF.out).2.1
      refine (chartT_any t C w3 HT.out HFF.out).mono ?_
      rintro e w4 ⟨hb4, us, ut, rfl, ho4⟩
      obtain ⟨uA, ucap, rA, rcap, rfl, rfl⟩ := ho4.has.slices
      obtain ⟨rs0, hI0⟩ := Told7.of (vr := C.vars) hb4 hb4.size HFF.out ho4
      have HI0 := Lib.hid hI0
      clear hb4 ho4 hI0
      go_wp2_with fail
      go_loopw [8] (fun i wr => ∃ (k : Nat) (rs : List StRow), k ≤ C.sts.length ∧ i = .int .i64 (k : Int) ∧ Hid (Told7 w3 w3.heap.size w4.heap.size C.sts.length C.trs.length C.vars (.slice uA C.sts.length ucap) (.slice rA C.trs.length rcap) rs wr)) (fun i _ => C.sts.length - (intOf i).toNat)
      case atStart => exact ⟨0, rs0, Nat.zero_le _, rfl, HI0⟩
      case round =>
        clear HI0
        obtain ⟨k, rs, hk, rfl, hI⟩ := hrel
        obtain ⟨wo, rfl⟩ : ∃ wo : World, wo = wr := ⟨_, rfl⟩
        obtain ⟨⟨x0, x1, x2⟩, -⟩ := hI.out.box.facts3
        by_cases hlt : k < C.sts.length
        · obtain ⟨g, cap, cur, r, hv, hcap, hgB, hG, hr, ⟨K0, c0⟩, f0, c2, hown⟩ := hI.out.at_ hlt
          injection hv with e1 e2 e3
          subst e1; subst e3
          obtain ⟨rs', hI'⟩ := hI.out.kind hlt hgB hG
          obtain ⟨A, nn, c, hr2, hnn, hnc⟩ := hown.slice
          rw [hr2] at c2 hown
          have HI' := Lib.hid hI'
          have HGB := Lib.hid hgB
          have HC2 : Hid ((wo.setCell ⟨g, k * 5, none⟩ (.int .i64 0)).cell? ⟨g, k * 5 + 2, none⟩ = some (.slice A nn c)) := Lib.hid (by
            rw [(hG.set_ (k * 5) (.int .i64 0)).cell, Array.getElem?_setIfInBounds_ne (by omega), ← hG.cell]
            exact c2)
          have HOWN := Lib.hid (hown.apart hG (by decide) (k * 5) (.int .i64 0))
          clear hI' hgB hG hr e2 hown c2 hI hr2
          go_wp2_with fail
          go_loopw [9] (fun i wr => ∃ q : Nat, q ≤ nn ∧ i = .int .i64 (q : Int) ∧ Hid (Told7 w3 w3.heap.size w4.heap.size C.sts.length C.trs.length C.vars (.slice (some ⟨g, 0, none⟩) C.sts.length ucap) (.slice rA C.trs.length rcap) rs' wr) ∧ Hid (wr.cell? ⟨g, k * 5 + 2, none⟩ = some (.slice A nn c)) ∧ Hid (OwnLen w3.heap.size wr (.slice A nn c))) (fun i _ => nn - (intOf i).toNat)
          case atStart => exact ⟨0, Nat.zero_le _, rfl, HI', HC2, HOWN⟩
          case round =>
            clear HI' HC2 HOWN c0 f0 x0 x1 x2
            obtain ⟨q, hq, rfl, hI, hC2, hOWN⟩ := hrel
            obtain ⟨wi, rfl⟩ : ∃ wi : World, wi = wr := ⟨_, rfl⟩
            obtain ⟨⟨x0, x1, x2⟩, -⟩ := hI.out.box.facts3
            have c2 := hC2.out
            by_cases hqn : q < nn
            · rcases hOWN.out with hnil | ⟨g', n', cap', cur', hsl, hB', hG', _, _, _, hc'⟩
              · injection hnil with _ e5 _
                omega
              · injection hsl with e4 e5 e6
                subst e4; subst e5; subst e6
                obtain ⟨x, hx⟩ := hc' q hqn
                have d0 : wi.cell? ⟨g', q, none⟩ = some (.int .i64 x) := by rw [hG'.cell]; exact hx
                have d1 := hG'.frozen q
                have HI2 := Lib.hid (hI.out.num hB' hG' q 99)
                have HO2 := Lib.hid (hOWN.out.put hG' q 99)
                have HC3 : Hid ((wi.setCell ⟨g', q, none⟩ (.int .i64 99)).cell? ⟨g, k * 5 + 2, none⟩ = some (.slice (some ⟨g', 0, none⟩) nn c)) := Lib.hid (by
                  obtain ⟨g2, cap2, cur2, r2, hv2, _, _, hG2, _⟩ := hI.out.at_ hlt
                  injection hv2 with e7 _ _
                  injection e7 with e7
                  injection e7 with e7
                  subst e7
                  rw [← c2]
                  exact World.cell?_of_block (Below.heap_setCell wi ⟨g', q, none⟩ _ g (blk_ne hG2 hG' (by decide))))
                clear hI hOWN hC2 hG' hB' hc' hx
                go_wp2_with fail
                go_roundw
                case rel => exact ⟨q + 1, by omega, by go_num, HI2, HC3, HO2⟩
                case measure => simp [intOf]; omega
            · obtain rfl : q = nn := by omega
              have HI2 := Lib.hid hI.out
              clear hI hOWN hC2
              go_wp2_with fail
              go_roundw
              case rel => exact ⟨k + 1, rs', by omega, by go_num, HI2⟩
              case measure => simp [intOf]; omega
        · obtain rfl : k = C.sts.length := by omega
          go_wp2_with fail
          clear x0 x1 x2
          go_loopw [10] (fun i wr => ∃ (k : Nat), k ≤ C.trs.length ∧ i = .int .i64 (k : Int) ∧ Hid (Told7 w3 w3.heap.size w4.heap.size C.sts.length C.trs.length C.vars (.slice uA C.sts.length ucap) (.slice rA C.trs.length rcap) rs wr)) (fun i _ => C.trs.length - (intOf i).toNat)
          case atStart => exact ⟨0, Nat.zero_le _, rfl, hI⟩
          case round =>
            clear hI
            obtain ⟨k, hk, rfl, hI⟩ := hrel
            obtain ⟨wp, rfl⟩ : ∃ wp : World, wp = wr := ⟨_, rfl⟩
            obtain ⟨⟨x0, x1, x2⟩, -⟩ := hI.out.box.facts3
            by_cases hlt : k < C.trs.length
            · obtain ⟨g, cap, cur, hv, hcap, hgB, hG, ⟨K0, c0⟩, f0⟩ := hI.out.atTr hlt
              injection hv with e1 e2 e3
              subst e1; subst e3
              have HI2 := Lib.hid (hI.out.src hlt hgB hG)
              clear hI hgB hG e2
              go_wp2_with fail
              go_roundw
              case rel => exact ⟨k + 1, by omega, by go_num, HI2⟩
              case measure => simp [intOf]; omega
            · obtain rfl : k = C.trs.length := by omega
              have HTP := Lib.hid (HT.out.below hI.out.below)
              have hlb : w.heap.size < w3.heap.size := by have := HB3.out.size; simp at this; omega
              have HCB := Lib.hid (((Blk.new w 25 #[.int .i64 C.vars, .slice sA C.sts.length scap, .slice tA C.trs.length tcap]).below HB3.out (by simp)).below hI.out.below hlb)
              have HBP := Lib.hid (HB3.out.trans (hI.out.below.mono HB3.out.size))
              have HSC : Hid (wp.drew.cell? ⟨w.heap.size, 0, none⟩ = some (.int .i64 C.vars) ∧ wp.drew.cell? ⟨w.heap.size, 1, none⟩ = some (.slice sA C.sts.length scap) ∧ wp.drew.cell? ⟨w.heap.size, 2, none⟩ = some (.slice tA C.trs.length tcap)) := Lib.hid ⟨HCB.out.cell 0, HCB.out.cell 1, HCB.out.cell 2⟩
              have HTD : Hid (TreeAt wp.drew t C) := Lib.hid (HTP.out.below (Below.refl _ _).drew)
              have HBD : Hid (Below (w.alloc (chBox C.vars (.slice sA C.sts.length scap) (.slice tA C.trs.length tcap))).heap.size (w.alloc (chBox C.vars (.slice sA C.sts.length scap) (.slice tA C.trs.length tcap))) wp.drew) := Lib.hid HBP.out.drew
              have HCD : Hid (Blk wp.drew w.heap.size 25 #[.int .i64 C.vars, .slice sA C.sts.length scap, .slice tA C.trs.length tcap]) := Lib.hid HCB.out
              clear hI
              go_wp2_with fail
              clear x0 x1 x2
              refine anyD_start (fun W => W.cell? ⟨w.heap.size, 0, none⟩ = some (.int .i64 C.vars) ∧ W.cell? ⟨w.heap.size, 1, none⟩ = some (.slice sA C.sts.length scap) ∧ W.cell? ⟨w.heap.size, 2, none⟩ = some (.slice tA C.trs.length tcap)) (fun i => [].contains i) (by kernel_rfl) ?_
              refine anyD_take (i := 0) (v := .bool true) rfl (by kernel_rfl) (by kernel_rfl) (by kernel_rfl) (fun _ _ _ h => h) (Or.inl ⟨by kernel_rfl, fun w => by go_simp⟩) ?_
              try simp only [Act.put, List.setIfInBounds_toArray, List.set_cons_zero, List.set_cons_succ, List.getElem_toArray, List.getElem_cons_zero]
              refine anyD_take (i := 1) (v := .bool true) rfl (by kernel_rfl) (by kernel_rfl) (by kernel_rfl) (fun _ _ _ h => h) (Or.inl ⟨by kernel_rfl, fun w => by go_simp⟩) ?_
              try simp only [Act.put, List.setIfInBounds_toArray, List.set_cons_zero, List.set_cons_succ, List.getElem_toArray, List.getElem_cons_zero, List.getElem_cons_succ]
              refine anyD_take (i := 2) (v := .pointer (some ⟨t, 0, none⟩)) rfl (by kernel_rfl) (by kernel_rfl) (by kernel_rfl) (fun _ _ _ h => h) (Or.inl ⟨by kernel_rfl, fun w => by go_simp⟩) ?_
              try simp only [Act.put, List.setIfInBounds_toArray, List.set_cons_zero, List.set_cons_succ, List.getElem_toArray, List.getElem_cons_zero, List.getElem_cons_succ]
              refine anyD_load (i := 4) (v := .agg #[.int .i64 C.vars, .slice sA C.sts.length scap, .slice tA C.trs.length tcap]) rfl (by kernel_rfl) (by kernel_rfl) (by kernel_rfl) (by kernel_rfl) (fun _ _ _ h => h) (Or.inl ⟨by kernel_rfl, fun w hS => by obtain ⟨c0, c1, c2⟩ := hS; go_simp⟩) HSC.out ?_
              try simp only [Act.put, List.setIfInBounds_toArray, List.set_cons_zero, List.set_cons_succ, List.getElem_toArray, List.getElem_cons_zero, List.getElem_cons_succ]
              refine anyD_only (i := 3) rfl (by kernel_rfl) (by kernel_rfl) (fun K HK => ?_)
              go_simp
              refine (chartT_any t C _ HTD.out HFF.out).mono ?_
              rintro e w5 ⟨hb5, us, ut, rfl, ho5⟩
              obtain ⟨vA, vcap, qA, qcap, rfl, rfl⟩ := ho5.has.slices
              have HB5 := Lib.hid hb5
              have HO5 := Lib.hid ho5
              clear hb5 ho5
              go_simp
              refine HK.out _ _ (fun _ hS => ⟨(HCD.out.below HB5.out HCD.out.lt).cell 0, (HCD.out.below HB5.out HCD.out.lt).cell 1, (HCD.out.below HB5.out HCD.out.lt).cell 2⟩) ?_
              clear HK K
              try simp only [Act.put, List.setIfInBounds_toArray, List.set_cons_zero, List.set_cons_succ, List.getElem_toArray, List.getElem_cons_zero, List.getElem_cons_succ]
              have HBE := Lib.hid (HBD.out.trans (HB5.out.mono HBD.out.size))
              refine anyD_only (i := 5) rfl (by kernel_rfl) (by kernel_rfl) (fun K HK => ?_)
              go_simp
              refine (same_any _ _ _ _ _ _ _ _ C _ HO5.out.has (HC.out.below (below_boxed HBE.out)) HFF.out).mono ?_
              rintro e w6 ⟨rfl, hb6⟩
              have HB6 := Lib.hid (HBE.out.trans (hb6.mono HBE.out.size))
              have HCF := Lib.hid ((HCD.out.below HB5.out HCD.out.lt).below hb6 (Nat.lt_of_lt_of_le HCD.out.lt HB5.out.size))
              clear hb6
              go_simp
              refine HK.out _ _ (fun _ hS => ⟨HCF.out.cell 0, HCF.out.cell 1, HCF.out.cell 2⟩) ?_
              clear HK K
              try simp only [Act.put, List.setIfInBounds_toArray, List.set_cons_zero, List.set_cons_succ, List.getElem_toArray, List.getElem_cons_zero, List.getElem_cons_succ]
              refine anyD_take (i := 6) (v := .bool true) rfl (by kernel_rfl) (by kernel_rfl) (by kernel_rfl) (fun _ _ _ h => h) (Or.inl ⟨by kernel_rfl, fun w => by go_simp⟩) ?_
              try simp only [Act.put, List.setIfInBounds_toArray, List.set_cons_zero, List.set_cons_succ, List.getElem_toArray, List.getElem_cons_zero, List.getElem_cons_succ]
              refine anyD_take (i := 7) (v := .bool true) rfl (by kernel_rfl) (by kernel_rfl) (by kernel_rfl) (fun _ _ _ h => h) (Or.inl ⟨by kernel_rfl, fun w => by go_simp⟩) ?_
              try simp only [Act.put, List.setIfInBounds_toArray, List.set_cons_zero, List.set_cons_succ, List.getElem_toArray, List.getElem_cons_zero, List.getElem_cons_succ]
              refine anyD_done (by kernel_rfl) ?_
              go_wp2_with fail
              go_ret
              exact ⟨rfl, below_boxed HB6.out⟩
    · have HOK := Lib.hid hok
      clear hok
      go_enter Tryz.func4, Tryz.ntmps4
      go_wp2_with fail
      refine (upT_any _ HL0.out).mono ?_
      rintro e w1 ⟨rfl, hb1⟩
      obtain ⟨x0, x1, x2⟩ := box_later hb1
      have HB1 := Lib.hid hb1
      clear hb1
      go_wp2_with fail
      refine (HF.out _ HB1.out).mono ?_
      rintro e w2 ⟨rfl, hb2⟩
      have hB2 := HB1.out.trans (hb2.mono HB1.out.size)
      clear x0 x1 x2
      obtain ⟨x0, x1, x2⟩ := box_later hB2
      have HB2 := Lib.hid hB2
      rw [HFF.out]
      clear hb2 hB2
      go_wp2_with fail
      refine (HCK.out _ HB2.out).mono ?_
      intro e w3 hp
      obtain ⟨hb3, hv⟩ := hp.not HOK.out
      have HB3 := Lib.hid (HB2.out.trans (hb3.mono HB2.out.size))
      clear hb3 hp x0 x1 x2
      rcases hv with ⟨p, rfl⟩ | ⟨p, rfl⟩
      · go_wp2_with fail
        go_ret
        exact ⟨rfl, below_boxed HB3.out⟩
      · go_wp2_with fail
        go_ret
        exact ⟨rfl, below_boxed HB3.out⟩
end Go.Proofs.YteepfpmeijnkbaaGreatDoor
