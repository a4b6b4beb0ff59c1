/- The walk of the law EnterSets: true for any chart, any histories and any numbers. -/
import Derived.Test.YtdkmloldajhdaaaGreatDoorSlw1
import Derived.Test.YtdkmloldajhdaaaGreatDoorSde
namespace Go.Proofs.YtdkmloldajhdaaaGreatDoor
open Go.ChangeShapes Go.WideShapes Go.ChangeAt Go.RowKit
set_option linter.unusedVariables false

set_option maxHeartbeats 8000000 in
set_option maxRecDepth 100000 in
theorem slaw2_any (vs vt vh vl : Value) (C : Ch) (H : List Nat) (a : Int) (l : List Int) (w : World) (hL : Laid w) (hC : ChHas w vs vt C) (hS : ShortCh C) (hH : HistAt w vh H) (hHs : Short H.length) (hv : ListAt w vl l) (hls : Short l.length) :
    Calls Tryz.prog 4 #[.agg #[.int .i64 C.vars, vs, vt], vh, .int .i64 a, vl] w fun e w' => e = .returned (.bool true) ∧ Below w.heap.size w w' := by
  obtain ⟨sA, scap, tA, tcap, rfl, rfl⟩ := hC.slices
  have HL := Lib.hid hL
  have HL0 := Lib.hid (hL.after (below_box w (chBox C.vars (.slice sA C.sts.length scap) (.slice tA C.trs.length tcap))))
  have HF := Lib.hid (fun (W : World) (h : Below (w.alloc (chBox C.vars (.slice sA C.sts.length scap) (.slice tA C.trs.length tcap))).heap.size (w.alloc (chBox C.vars (.slice sA C.sts.length scap) (.slice tA C.trs.length tcap))) W) => few_any C.vars (.slice sA C.sts.length scap) (.slice tA C.trs.length tcap) C W (hC.below (below_boxed h)) hS)
  have HC := Lib.hid hC
  have HCH := Lib.hid (fun (W : World) (hF : fewB C = true) (h : Below (w.alloc (chBox C.vars (.slice sA C.sts.length scap) (.slice tA C.trs.length tcap))).heap.size (w.alloc (chBox C.vars (.slice sA C.sts.length scap) (.slice tA C.trs.length tcap))) W) => new_any (.slice sA C.sts.length scap) (.slice tA C.trs.length tcap) C W (hL.after (below_boxed h)) (hC.below (below_boxed h)) hF)
  have HHA := Lib.hid hH
  obtain ⟨hA, hcap, rfl, hhcap⟩ := RowsAt.slice hH
  unfold Short at hHs
  have HLA := Lib.hid hv
  obtain ⟨lA, lcap, rfl, hlcap⟩ := RowsAt.slice hv
  unfold Short at hls
  have hnn := neq_nil_nil
  have hnc := fun p W => neq_code_any p W
  have hns := fun p W => neq_spot_any p W
  clear hL hC hS hH hv
  cases hf : fewB C with
  | false =>
    have HFF := Lib.hid hf
    clear hf
    go_enter Tryz.func4, Tryz.ntmps4
    go_wp2_with fail
    refine (upS_any _ HL0.out).mono ?_
    rintro e w1 ⟨rfl, hb1⟩
    obtain ⟨x0, x1, x2⟩ := box_later hb1
    have HB1 := Lib.hid hb1
    clear hb1
    go_wp2_with fail
    refine (HF.out _ HB1.out).mono ?_
    rintro e w2 ⟨rfl, hb2⟩
    have hB2 := HB1.out.trans (hb2.mono HB1.out.size)
    clear x0 x1 x2
    obtain ⟨x0, x1, x2⟩ := box_later hB2
    have HB2 := Lib.hid hB2
    rw [HFF.out]
    clear hb2 hB2
    go_wp2_with fail
    go_ret
    exact ⟨rfl, below_boxed HB2.out⟩
  | true =>
    have HFF := Lib.hid hf
    clear hf
    by_cases h40 : 40 < H.length
    · have h40b : decide ((40 : Int) < (H.length : Int)) = true := by simp; omega
      go_enter Tryz.func4, Tryz.ntmps4
      go_wp2_with fail
      refine (upS_any _ HL0.out).mono ?_
      rintro e w1 ⟨rfl, hb1⟩
      obtain ⟨x0, x1, x2⟩ := box_later hb1
      have HB1 := Lib.hid hb1
      clear hb1
      go_wp2_with fail
      refine (HF.out _ HB1.out).mono ?_
      rintro e w2 ⟨rfl, hb2⟩
      have hB2 := HB1.out.trans (hb2.mono HB1.out.size)
      clear x0 x1 x2
      obtain ⟨x0, x1, x2⟩ := box_later hB2
      have HB2 := Lib.hid hB2
      rw [HFF.out]
      clear hb2 hB2
      go_wp2_with fail
      go_ret
      exact ⟨rfl, below_boxed HB2.out⟩
    · have h40b : decide ((40 : Int) < (H.length : Int)) = false := by simp; omega
      by_cases h20 : 20 < l.length
      · have h20b : decide ((20 : Int) < (l.length : Int)) = true := by simp; omega
        go_enter Tryz.func4, Tryz.ntmps4
        go_wp2_with fail
        refine (upS_any _ HL0.out).mono ?_
        rintro e w1 ⟨rfl, hb1⟩
        obtain ⟨x0, x1, x2⟩ := box_later hb1
        have HB1 := Lib.hid hb1
        clear hb1
        go_wp2_with fail
        refine (HF.out _ HB1.out).mono ?_
        rintro e w2 ⟨rfl, hb2⟩
        have hB2 := HB1.out.trans (hb2.mono HB1.out.size)
        clear x0 x1 x2
        obtain ⟨x0, x1, x2⟩ := box_later hB2
        have HB2 := Lib.hid hB2
        rw [HFF.out]
        clear hb2 hB2
        go_wp2_with fail
        go_ret
        exact ⟨rfl, below_boxed HB2.out⟩
      · have h20b : decide ((20 : Int) < (l.length : Int)) = false := by simp; omega
        have HCK := Lib.hid (fun (W : World) h => HCH.out W HFF.out h)
        by_cases hok : chk hasTB C = .ok
        · have HOK := Lib.hid hok
          have hta := tame_of hok
          have hlen := hta.len
          have HTA := Lib.hid hta
          clear hok hta
          go_enter Tryz.func4, Tryz.ntmps4
          go_wp2_with fail
          refine (upS_any _ HL0.out).mono ?_
          rintro e w1 ⟨rfl, hb1⟩
          obtain ⟨x0, x1, x2⟩ := box_later hb1
          have HB1 := Lib.hid hb1
          clear hb1
          go_wp2_with fail
          refine (HF.out _ HB1.out).mono ?_
          rintro e w2 ⟨rfl, hb2⟩
          have hB2 := HB1.out.trans (hb2.mono HB1.out.size)
          clear x0 x1 x2
          obtain ⟨x0, x1, x2⟩ := box_later hB2
          have HB2 := Lib.hid hB2
          rw [HFF.out]
          clear hb2 hB2
          go_wp2_with fail
          refine (HCK.out _ HB2.out).mono ?_
          intro e w3 hp
          obtain ⟨hb3, t, rfl, ht, hT⟩ := npost_yes hp HOK.out
          have HB3 := Lib.hid (HB2.out.trans (hb3.mono HB2.out.size))
          have HT := Lib.hid hT
          clear hb3 hp hT ht x0 x1 x2
          obtain ⟨x0, x1, x2⟩ := box_later HB3.out
          go_wp2_with fail
          refine (good_any C.vars _ _ _ C H _ (HC.out.below (below_boxed HB3.out)) (HHA.out.below (below_boxed HB3.out)) HTA.out (by omega)).mono ?_
          rintro e w4 ⟨hb4, bb, rfl, hbb⟩
          have HB4 := Lib.hid (HB3.out.trans (hb4.mono HB3.out.size))
          have HT4 := Lib.hid (HT.out.below hb4)
          have HBB := Lib.hid hbb
          clear hb4 hbb x0 x1 x2
          obtain ⟨x0, x1, x2⟩ := box_later HB4.out
          go_wp2_with fail
          refine (enterSet_any t a _ _ C H l _ HT4.out HOK.out HFF.out (HHA.out.below (below_boxed HB4.out)) (by omega) (HLA.out.below (below_boxed HB4.out)) (by omega)).mono ?_
          rintro e w5 ⟨rfl, hb5⟩
          have HB5 := Lib.hid (HB4.out.trans (hb5.mono HB4.out.size))
          clear hb5 x0 x1 x2
          obtain ⟨x0, x1, x2⟩ := box_later HB5.out
          cases bb with
          | false =>
            go_wp2_with fail
            go_ret
            exact ⟨rfl, below_boxed HB5.out⟩
          | true =>
            have HG := Lib.hid (HBB.out rfl)
            rw [set_same HTA.out (good_std HTA.out HG.out).1]
            generalize hD : bset (dSet C.sts H a l) C.sts.length = D at *
            have HD := Lib.hid hD
            clear hD HBB
            go_wp2_with fail
            refine (renter_any C.vars a _ _ _ _ C H l _ (HC.out.below (below_boxed HB5.out)) (HHA.out.below (below_boxed HB5.out)) (HLA.out.below (below_boxed HB5.out)) HTA.out HG.out (by omega) (by omega)).mono ?_
            rintro e w6 ⟨rfl, hb6⟩
            have HB6 := Lib.hid (HB5.out.trans (hb6.mono HB5.out.size))
            rw [HD.out]
            clear hb6 x0 x1 x2
            go_wp2_with fail
            go_ret
            exact ⟨rfl, below_boxed HB6.out⟩
        · have HOK := Lib.hid hok
          clear hok
          go_enter Tryz.func4, Tryz.ntmps4
          go_wp2_with fail
          refine (upS_any _ HL0.out).mono ?_
          rintro e w1 ⟨rfl, hb1⟩
          obtain ⟨x0, x1, x2⟩ := box_later hb1
          have HB1 := Lib.hid hb1
          clear hb1
          go_wp2_with fail
          refine (HF.out _ HB1.out).mono ?_
          rintro e w2 ⟨rfl, hb2⟩
          have hB2 := HB1.out.trans (hb2.mono HB1.out.size)
          clear x0 x1 x2
          obtain ⟨x0, x1, x2⟩ := box_later hB2
          have HB2 := Lib.hid hB2
          rw [HFF.out]
          clear hb2 hB2
          go_wp2_with fail
          refine (HCK.out _ HB2.out).mono ?_
          intro e w3 hp
          obtain ⟨hb3, hv⟩ := npost_no hp HOK.out
          have HB3 := Lib.hid (HB2.out.trans (hb3.mono HB2.out.size))
          clear hb3 hp x0 x1 x2
          rcases hv with ⟨p, rfl⟩ | ⟨p, rfl⟩
          · go_wp2_with fail
            go_ret
            exact ⟨rfl, below_boxed HB3.out⟩
          · go_wp2_with fail
            go_ret
            exact ⟨rfl, below_boxed HB3.out⟩
end Go.Proofs.YtdkmloldajhdaaaGreatDoor
