/- The walk of the law EnterReal: true for any chart, any histories and any numbers. -/
import Derived.Test.YtdkmloldajhdaaaGreatDoorShd
import Derived.Test.YtdkmloldajhdaaaGreatDoorSrr
import Derived.Test.YtdkmloldajhdaaaGreatDoorCarg
import Derived.Test.YtdkmloldajhdaaaGreatDoorCfew
namespace Go.Proofs.YtdkmloldajhdaaaGreatDoor
open Go.ChangeShapes Go.WideShapes Go.ChangeAt Go.RowKit
set_option linter.unusedVariables false

/-- New of a chart that may not be: no tree, and an error -/
theorem npost_no {C : Ch} {w w' : World} {e : Ending} (h : NPost C w e w') (hn : ¬ chk hasTB C = .ok) : Below w.heap.size w w' ∧ ((∃ p, e = .returned (.tuple #[.pointer none, .iface 78 p])) ∨ ∃ p, e = .returned (.tuple #[.pointer none, .iface 80 p])) := by
  unfold NPost at h
  cases hc : chk hasTB C with
  | ok => exact absurd hc hn
  | large =>
    rw [hc] at h
    exact ⟨h.1, .inl ⟨_, h.2⟩⟩
  | spot k c =>
    rw [hc] at h
    obtain ⟨hb, g, he, _⟩ := h
    exact ⟨hb, .inr ⟨_, he⟩⟩
theorem npost_yes {C : Ch} {w w' : World} {e : Ending} (h : NPost C w e w') (hk : chk hasTB C = .ok) : Below w.heap.size w w' ∧ ∃ g, e = .returned (.tuple #[.pointer (some ⟨g, 0, none⟩), .nilIface]) ∧ w.heap.size ≤ g ∧ TreeAt w' g C := by
  unfold NPost at h
  rw [hk] at h
  exact h
set_option maxHeartbeats 8000000 in
set_option maxRecDepth 100000 in
theorem slaw1_any (vs vt vh vl : Value) (C : Ch) (H : List Nat) (l : List Int) (w : World) (hL : Laid w) (hC : ChHas w vs vt C) (hS : ShortCh C) (hH : HistAt w vh H) (hHs : Short H.length) (hv : ListAt w vl l) (hls : Short l.length) :
    Calls Tryz.prog 3 #[.agg #[.int .i64 C.vars, vs, vt], vh, vl] w fun e w' => e = .returned (.bool true) ∧ Below w.heap.size w w' := by
  obtain ⟨sA, scap, tA, tcap, rfl, rfl⟩ := hC.slices
  have HL := Lib.hid hL
  have HL0 := Lib.hid (hL.after (below_box w (chBox C.vars (.slice sA C.sts.length scap) (.slice tA C.trs.length tcap))))
  have HF := Lib.hid (fun (W : World) (h : Below (w.alloc (chBox C.vars (.slice sA C.sts.length scap) (.slice tA C.trs.length tcap))).heap.size (w.alloc (chBox C.vars (.slice sA C.sts.length scap) (.slice tA C.trs.length tcap))) W) => few_any C.vars (.slice sA C.sts.length scap) (.slice tA C.trs.length tcap) C W (hC.below (below_boxed h)) hS)
  have HC := Lib.hid hC
  have HCH := Lib.hid (fun (W : World) (hF : fewB C = true) (h : Below (w.alloc (chBox C.vars (.slice sA C.sts.length scap) (.slice tA C.trs.length tcap))).heap.size (w.alloc (chBox C.vars (.slice sA C.sts.length scap) (.slice tA C.trs.length tcap))) W) => new_any (.slice sA C.sts.length scap) (.slice tA C.trs.length tcap) C W (hL.after (below_boxed h)) (hC.below (below_boxed h)) hF)
  have HHA := Lib.hid hH
  obtain ⟨hA, hcap, rfl, hhcap⟩ := RowsAt.slice hH
  unfold Short at hHs
  have HLA := Lib.hid hv
  obtain ⟨lA, lcap, rfl, hlcap⟩ := RowsAt.slice hv
  unfold Short at hls
  have hnn := neq_nil_nil
  have hnc := fun p W => neq_code_any p W
  have hns := fun p W => neq_spot_any p W
  clear hL hC hS hH hv
  cases hf : fewB C with
  | false =>
    have HFF := Lib.hid hf
    clear hf
    go_enter Tryz.func3, Tryz.ntmps3
    go_wp2_with fail
    refine (upS_any _ HL0.out).mono ?_
    rintro e w1 ⟨rfl, hb1⟩
    obtain ⟨x0, x1, x2⟩ := box_later hb1
    have HB1 := Lib.hid hb1
    clear hb1
    go_wp2_with fail
    refine (HF.out _ HB1.out).mono ?_
    rintro e w2 ⟨rfl, hb2⟩
    have hB2 := HB1.out.trans (hb2.mono HB1.out.size)
    clear x0 x1 x2
    obtain ⟨x0, x1, x2⟩ := box_later hB2
    have HB2 := Lib.hid hB2
    rw [HFF.out]
    clear hb2 hB2
    go_wp2_with fail
    go_ret
    exact ⟨rfl, below_boxed HB2.out⟩
  | true =>
    have HFF := Lib.hid hf
    clear hf
    by_cases h40 : 40 < H.length
    · have h40b : decide ((40 : Int) < (H.length : Int)) = true := by simp; omega
      go_enter Tryz.func3, Tryz.ntmps3
      go_wp2_with fail
      refine (upS_any _ HL0.out).mono ?_
      rintro e w1 ⟨rfl, hb1⟩
      obtain ⟨x0, x1, x2⟩ := box_later hb1
      have HB1 := Lib.hid hb1
      clear hb1
      go_wp2_with fail
      refine (HF.out _ HB1.out).mono ?_
      rintro e w2 ⟨rfl, hb2⟩
      have hB2 := HB1.out.trans (hb2.mono HB1.out.size)
      clear x0 x1 x2
      obtain ⟨x0, x1, x2⟩ := box_later hB2
      have HB2 := Lib.hid hB2
      rw [HFF.out]
      clear hb2 hB2
      go_wp2_with fail
      go_ret
      exact ⟨rfl, below_boxed HB2.out⟩
    · have h40b : decide ((40 : Int) < (H.length : Int)) = false := by simp; omega
      by_cases h20 : 20 < l.length
      · have h20b : decide ((20 : Int) < (l.length : Int)) = true := by simp; omega
        go_enter Tryz.func3, Tryz.ntmps3
        go_wp2_with fail
        refine (upS_any _ HL0.out).mono ?_
        rintro e w1 ⟨rfl, hb1⟩
        obtain ⟨x0, x1, x2⟩ := box_later hb1
        have HB1 := Lib.hid hb1
        clear hb1
        go_wp2_with fail
        refine (HF.out _ HB1.out).mono ?_
        rintro e w2 ⟨rfl, hb2⟩
        have hB2 := HB1.out.trans (hb2.mono HB1.out.size)
        clear x0 x1 x2
        obtain ⟨x0, x1, x2⟩ := box_later hB2
        have HB2 := Lib.hid hB2
        rw [HFF.out]
        clear hb2 hB2
        go_wp2_with fail
        go_ret
        exact ⟨rfl, below_boxed HB2.out⟩
      · have h20b : decide ((20 : Int) < (l.length : Int)) = false := by simp; omega
        have HCK := Lib.hid (fun (W : World) h => HCH.out W HFF.out h)
        by_cases hok : chk hasTB C = .ok
        · have HOK := Lib.hid hok
          have hta := tame_of hok
          have hlen := hta.len
          have HTA := Lib.hid hta
          have HRLN : Hid ((realS C.sts H l).length ≤ 1000) := Lib.hid (by have := real_len hta H l; omega)
          clear hok hta
          go_enter Tryz.func3, Tryz.ntmps3
          go_wp2_with fail
          refine (upS_any _ HL0.out).mono ?_
          rintro e w1 ⟨rfl, hb1⟩
          obtain ⟨x0, x1, x2⟩ := box_later hb1
          have HB1 := Lib.hid hb1
          clear hb1
          go_wp2_with fail
          refine (HF.out _ HB1.out).mono ?_
          rintro e w2 ⟨rfl, hb2⟩
          have hB2 := HB1.out.trans (hb2.mono HB1.out.size)
          clear x0 x1 x2
          obtain ⟨x0, x1, x2⟩ := box_later hB2
          have HB2 := Lib.hid hB2
          rw [HFF.out]
          clear hb2 hB2
          go_wp2_with fail
          refine (HCK.out _ HB2.out).mono ?_
          intro e w3 hp
          obtain ⟨hb3, t, rfl, ht, hT⟩ := npost_yes hp HOK.out
          have HB3 := Lib.hid (HB2.out.trans (hb3.mono HB2.out.size))
          have HT := Lib.hid hT
          clear hb3 hp hT ht x0 x1 x2
          obtain ⟨x0, x1, x2⟩ := box_later HB3.out
          go_wp2_with fail
          clear x0 x1 x2
          refine anyD_start (fun W => W.cell? ⟨w.heap.size, 0, none⟩ = some (.int .i64 C.vars) ∧ W.cell? ⟨w.heap.size, 1, none⟩ = some (.slice sA C.sts.length scap) ∧ W.cell? ⟨w.heap.size, 2, none⟩ = some (.slice tA C.trs.length tcap)) (fun i => [].contains i) (by kernel_rfl) ?_
          have HBD := Lib.hid HB3.out.drew
          have HTD : Hid (TreeAt w3.drew t C) := Lib.hid (HT.out.below (Below.refl _ _).drew)
          have HSD := Lib.hid (box_later HBD.out)
          refine anyD_take (i := 0) (v := .bool true) rfl (by kernel_rfl) (by kernel_rfl) (by kernel_rfl) (fun _ _ _ h => h) (Or.inl ⟨by kernel_rfl, fun w => by go_simp⟩) ?_
          try simp only [Act.put, List.setIfInBounds_toArray, List.set_cons_zero, List.set_cons_succ, List.getElem_toArray, List.getElem_cons_zero]
          refine anyD_take (i := 1) (v := .bool true) rfl (by kernel_rfl) (by kernel_rfl) (by kernel_rfl) (fun _ _ _ h => h) (Or.inl ⟨by kernel_rfl, fun w => by go_simp⟩) ?_
          try simp only [Act.put, List.setIfInBounds_toArray, List.set_cons_zero, List.set_cons_succ, List.getElem_toArray, List.getElem_cons_zero, List.getElem_cons_succ]
          refine anyD_take (i := 2) (v := .pointer (some ⟨t, 0, none⟩)) rfl (by kernel_rfl) (by kernel_rfl) (by kernel_rfl) (fun _ _ _ h => h) (Or.inl ⟨by kernel_rfl, fun w => by go_simp⟩) ?_
          try simp only [Act.put, List.setIfInBounds_toArray, List.set_cons_zero, List.set_cons_succ, List.getElem_toArray, List.getElem_cons_zero, List.getElem_cons_succ]
          refine anyD_take (i := 3) (v := .slice hA H.length hcap) rfl (by kernel_rfl) (by kernel_rfl) (by kernel_rfl) (fun _ _ _ h => h) (Or.inl ⟨by kernel_rfl, fun w => by go_simp⟩) ?_
          try simp only [Act.put, List.setIfInBounds_toArray, List.set_cons_zero, List.set_cons_succ, List.getElem_toArray, List.getElem_cons_zero, List.getElem_cons_succ]
          refine anyD_take (i := 4) (v := .slice lA l.length lcap) rfl (by kernel_rfl) (by kernel_rfl) (by kernel_rfl) (fun _ _ _ h => h) (Or.inl ⟨by kernel_rfl, fun w => by go_simp⟩) ?_
          try simp only [Act.put, List.setIfInBounds_toArray, List.set_cons_zero, List.set_cons_succ, List.getElem_toArray, List.getElem_cons_zero, List.getElem_cons_succ]
          refine anyD_load (i := 6) (v := .agg #[.int .i64 C.vars, .slice sA C.sts.length scap, .slice tA C.trs.length tcap]) rfl (by kernel_rfl) (by kernel_rfl) (by kernel_rfl) (by kernel_rfl) (fun _ _ _ h => h) (Or.inl ⟨by kernel_rfl, fun w hS => by obtain ⟨c0, c1, c2⟩ := hS; go_simp⟩) (HSD.out) ?_
          try simp only [Act.put, List.setIfInBounds_toArray, List.set_cons_zero, List.set_cons_succ, List.getElem_toArray, List.getElem_cons_zero, List.getElem_cons_succ]
          refine anyD_take (i := 7) (v := .slice hA H.length hcap) rfl (by kernel_rfl) (by kernel_rfl) (by kernel_rfl) (fun _ _ _ h => h) (Or.inl ⟨by kernel_rfl, fun w => by go_simp⟩) ?_
          try simp only [Act.put, List.setIfInBounds_toArray, List.set_cons_zero, List.set_cons_succ, List.getElem_toArray, List.getElem_cons_zero, List.getElem_cons_succ]
          refine anyD_take (i := 8) (v := .slice lA l.length lcap) rfl (by kernel_rfl) (by kernel_rfl) (by kernel_rfl) (fun _ _ _ h => h) (Or.inl ⟨by kernel_rfl, fun w => by go_simp⟩) ?_
          try simp only [Act.put, List.setIfInBounds_toArray, List.set_cons_zero, List.set_cons_succ, List.getElem_toArray, List.getElem_cons_zero, List.getElem_cons_succ]
          refine anyD_only (i := 5) rfl (by kernel_rfl) (by kernel_rfl) (fun K HK => ?_)
          go_simp
          refine (enterReal_any t _ _ C H l _ HTD.out HOK.out HFF.out (HHA.out.below (below_boxed HBD.out)) (by omega) (HLA.out.below (below_boxed HBD.out)) (by omega)).mono ?_
          rintro e w4 ⟨hb4, v4, rfl, ho4⟩
          have HB4 := Lib.hid (HBD.out.trans (hb4.mono HBD.out.size))
          have HLI4 := Lib.hid (list_of_own ho4)
          clear hb4 ho4
          go_simp
          refine HK.out _ _ (fun _ hS => box_later HB4.out) ?_
          clear HK K
          try simp only [Act.put, List.setIfInBounds_toArray, List.set_cons_zero, List.set_cons_succ, List.getElem_toArray, List.getElem_cons_zero, List.getElem_cons_succ]
          refine anyD_only (i := 9) rfl (by kernel_rfl) (by kernel_rfl) (fun K HK => ?_)
          go_simp
          refine (rreal_any C.vars _ _ _ _ C H l _ (HC.out.below (below_boxed HB4.out)) (HHA.out.below (below_boxed HB4.out)) (HLA.out.below (below_boxed HB4.out)) HTA.out (by omega) (by omega)).mono ?_
          rintro e w5 ⟨hb5, v5, rfl, ho5⟩
          have HB5 := Lib.hid (HB4.out.trans (hb5.mono HB4.out.size))
          have HLI5 := Lib.hid (list_of_own ho5)
          have HLI45 := Lib.hid (HLI4.out.below hb5)
          clear hb5 ho5
          go_simp
          refine HK.out _ _ (fun _ hS => box_later HB5.out) ?_
          clear HK K
          try simp only [Act.put, List.setIfInBounds_toArray, List.set_cons_zero, List.set_cons_succ, List.getElem_toArray, List.getElem_cons_zero, List.getElem_cons_succ]
          refine anyD_only (i := 10) rfl (by kernel_rfl) (by kernel_rfl) (fun K HK => ?_)
          go_simp
          refine (ints_same _ _ (realS C.sts H l) _ HLI45.out HLI5.out HRLN.out).mono ?_
          rintro e w6 ⟨rfl, hb6⟩
          have HB6 := Lib.hid (HB5.out.trans (hb6.mono HB5.out.size))
          clear hb6
          go_simp
          refine HK.out _ _ (fun _ hS => box_later HB6.out) ?_
          clear HK K
          try simp only [Act.put, List.setIfInBounds_toArray, List.set_cons_zero, List.set_cons_succ, List.getElem_toArray, List.getElem_cons_zero, List.getElem_cons_succ]
          refine anyD_take (i := 11) (v := .bool true) rfl (by kernel_rfl) (by kernel_rfl) (by kernel_rfl) (fun _ _ _ h => h) (Or.inl ⟨by kernel_rfl, fun w => by go_simp⟩) ?_
          try simp only [Act.put, List.setIfInBounds_toArray, List.set_cons_zero, List.set_cons_succ, List.getElem_toArray, List.getElem_cons_zero, List.getElem_cons_succ]
          refine anyD_take (i := 12) (v := .bool true) rfl (by kernel_rfl) (by kernel_rfl) (by kernel_rfl) (fun _ _ _ h => h) (Or.inl ⟨by kernel_rfl, fun w => by go_simp⟩) ?_
          try simp only [Act.put, List.setIfInBounds_toArray, List.set_cons_zero, List.set_cons_succ, List.getElem_toArray, List.getElem_cons_zero, List.getElem_cons_succ]
          refine anyD_done (by kernel_rfl) ?_
          go_wp2_with fail
          go_ret
          exact ⟨rfl, below_boxed HB6.out⟩
        · have HOK := Lib.hid hok
          clear hok
          go_enter Tryz.func3, Tryz.ntmps3
          go_wp2_with fail
          refine (upS_any _ HL0.out).mono ?_
          rintro e w1 ⟨rfl, hb1⟩
          obtain ⟨x0, x1, x2⟩ := box_later hb1
          have HB1 := Lib.hid hb1
          clear hb1
          go_wp2_with fail
          refine (HF.out _ HB1.out).mono ?_
          rintro e w2 ⟨rfl, hb2⟩
          have hB2 := HB1.out.trans (hb2.mono HB1.out.size)
          clear x0 x1 x2
          obtain ⟨x0, x1, x2⟩ := box_later hB2
          have HB2 := Lib.hid hB2
          rw [HFF.out]
          clear hb2 hB2
          go_wp2_with fail
          refine (HCK.out _ HB2.out).mono ?_
          intro e w3 hp
          obtain ⟨hb3, hv⟩ := npost_no hp HOK.out
          have HB3 := Lib.hid (HB2.out.trans (hb3.mono HB2.out.size))
          clear hb3 hp x0 x1 x2
          rcases hv with ⟨p, rfl⟩ | ⟨p, rfl⟩
          · go_wp2_with fail
            go_ret
            exact ⟨rfl, below_boxed HB3.out⟩
          · go_wp2_with fail
            go_ret
            exact ⟨rfl, below_boxed HB3.out⟩
end Go.Proofs.YtdkmloldajhdaaaGreatDoor
