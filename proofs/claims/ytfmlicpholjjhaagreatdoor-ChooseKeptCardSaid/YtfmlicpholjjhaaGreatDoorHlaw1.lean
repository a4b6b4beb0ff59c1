/- The walks of the laws ChooseReady and ChooseGathers: true for any chart, any variables, any transition or set, any event. -/
import Derived.Test.YtfmlicpholjjhaaGreatDoorHup
import Derived.Test.YtfmlicpholjjhaaGreatDoorHrg
namespace Go.Proofs.YtfmlicpholjjhaaGreatDoor
open Go.ChangeShapes Go.WideShapes Go.ChangeAt Go.RowKit
set_option linter.unusedVariables false

set_option maxHeartbeats 8000000 in
set_option maxRecDepth 100000 in
theorem hlaw1_any (vs vt ve : Value) (C : Ch) (env : List Int) (i ev : Int) (w : World) (hL : Laid w) (hC : ChHas w vs vt C) (hS : ShortCh C) (hE : NumsAt w ve env) (hes : Short env.length) (hef : ∀ x ∈ env, F64 x) :
    Calls Tryz.prog 3 #[.agg #[.int .i64 C.vars, vs, vt], ve, .int .i64 i, .int .i64 ev] w fun e w' => e = .returned (.bool true) ∧ Below w.heap.size w w' := by
  obtain ⟨sA, scap, tA, tcap, rfl, rfl⟩ := hC.slices
  have HL0 := Lib.hid (hL.after (below_box w (chBox C.vars (.slice sA C.sts.length scap) (.slice tA C.trs.length tcap))))
  have HLW := Lib.hid (fun (W : World) (h : Below (w.alloc (chBox C.vars (.slice sA C.sts.length scap) (.slice tA C.trs.length tcap))).heap.size (w.alloc (chBox C.vars (.slice sA C.sts.length scap) (.slice tA C.trs.length tcap))) W) => hL.after (below_boxed h))
  have HF := Lib.hid (fun (W : World) (h : Below (w.alloc (chBox C.vars (.slice sA C.sts.length scap) (.slice tA C.trs.length tcap))).heap.size (w.alloc (chBox C.vars (.slice sA C.sts.length scap) (.slice tA C.trs.length tcap))) W) => few_any C.vars (.slice sA C.sts.length scap) (.slice tA C.trs.length tcap) C W (hC.below (below_boxed h)) hS)
  have HC := Lib.hid hC
  have HCH := Lib.hid (fun (W : World) (hF : fewB C = true) (h : Below (w.alloc (chBox C.vars (.slice sA C.sts.length scap) (.slice tA C.trs.length tcap))).heap.size (w.alloc (chBox C.vars (.slice sA C.sts.length scap) (.slice tA C.trs.length tcap))) W) => new_any (.slice sA C.sts.length scap) (.slice tA C.trs.length tcap) C W (hL.after (below_boxed h)) (hC.below (below_boxed h)) hF)
  have HE := Lib.hid hE
  obtain ⟨eA, ecap, rfl, hec, _⟩ := hE
  have HEF := Lib.hid hef
  unfold Short at hes
  have hnn := neq_nil_nil
  have hnc := fun p W => neq_code_any p W
  have hns := fun p W => neq_spot_any p W
  clear hL hC hS hef
  cases hf : fewB C with
  | false =>
    have HFF := Lib.hid hf
    clear hf
    go_enter Tryz.func3, Tryz.ntmps3
    go_wp2_with fail
    refine (upH_any _ HL0.out).mono ?_
    rintro e w1 ⟨rfl, hb1⟩
    obtain ⟨x0, x1, x2⟩ := box_later hb1
    have HB1 := Lib.hid hb1
    clear hb1
    go_wp2_with fail
    refine (HF.out _ HB1.out).mono ?_
    rintro e w2 ⟨rfl, hb2⟩
    have hB2 := HB1.out.trans (hb2.mono HB1.out.size)
    clear x0 x1 x2
    obtain ⟨x0, x1, x2⟩ := box_later hB2
    have HB2 := Lib.hid hB2
    rw [HFF.out]
    clear hb2 hB2
    go_wp2_with fail
    go_ret
    exact ⟨rfl, below_boxed HB2.out⟩
  | true =>
    have HFF := Lib.hid hf
    clear hf
    by_cases h40 : 40 < env.length
    · have h40b : decide ((40 : Int) < (env.length : Int)) = true := by simp; omega
      go_enter Tryz.func3, Tryz.ntmps3
      go_wp2_with fail
      refine (upH_any _ HL0.out).mono ?_
      rintro e w1 ⟨rfl, hb1⟩
      obtain ⟨x0, x1, x2⟩ := box_later hb1
      have HB1 := Lib.hid hb1
      clear hb1
      go_wp2_with fail
      refine (HF.out _ HB1.out).mono ?_
      rintro e w2 ⟨rfl, hb2⟩
      have hB2 := HB1.out.trans (hb2.mono HB1.out.size)
      clear x0 x1 x2
      obtain ⟨x0, x1, x2⟩ := box_later hB2
      have HB2 := Lib.hid hB2
      rw [HFF.out]
      clear hb2 hB2
      go_wp2_with fail
      go_ret
      exact ⟨rfl, below_boxed HB2.out⟩
    · have h40b : decide ((40 : Int) < (env.length : Int)) = false := by simp; omega
      have HCK := Lib.hid (fun (W : World) h => HCH.out W HFF.out h)
      by_cases hok : chk hasTB C = .ok
      · have HOK := Lib.hid hok
        have hta := tame_of hok
        have hlen := hta.len
        have HTA := Lib.hid hta
        have HRT := Lib.hid (rooted_of hok)
        clear hok hta

        cases hi : isTr C.trs i with
        | false =>
          have HR : Hid (rdyL C env ev i = (false, false)) := Lib.hid (by unfold rdyL; rw [if_neg (by rw [hi]; simp)])
          have HII := Lib.hid hi
          go_enter Tryz.func3, Tryz.ntmps3
          go_wp2_with fail
          refine (upH_any _ HL0.out).mono ?_
          rintro e w1 ⟨rfl, hb1⟩
          obtain ⟨x0, x1, x2⟩ := box_later hb1
          have HB1 := Lib.hid hb1
          clear hb1
          go_wp2_with fail
          refine (HF.out _ HB1.out).mono ?_
          rintro e w2 ⟨rfl, hb2⟩
          have hB2 := HB1.out.trans (hb2.mono HB1.out.size)
          clear x0 x1 x2
          obtain ⟨x0, x1, x2⟩ := box_later hB2
          have HB2 := Lib.hid hB2
          rw [HFF.out]
          clear hb2 hB2

          go_wp2_with fail
          refine (HCK.out _ HB2.out).mono ?_
          intro e w3 hp
          obtain ⟨hb3, t, rfl, ht, hT⟩ := npost_yes hp HOK.out
          have HB3 := Lib.hid (HB2.out.trans (hb3.mono HB2.out.size))
          have HT := Lib.hid hT
          clear hb3 hp hT ht x0 x1 x2
          obtain ⟨x0, x1, x2⟩ := box_later HB3.out

          go_wp2_with fail
          refine (ready_any t _ i ev C env _ (HLW.out _ HB3.out) HT.out HFF.out (HE.out.below (below_boxed HB3.out)) (by omega) HEF.out).mono ?_
          rintro e w4 ⟨rfl, hb4⟩
          have HB4 := Lib.hid (HB3.out.trans (hb4.mono HB3.out.size))
          clear hb4 x0 x1 x2
          obtain ⟨x0, x1, x2⟩ := box_later HB4.out
          rw [HR.out]
          by_cases hneg : i < 0
          · have hd1 : decide (i < 0) = true := by simpa using hneg
            go_wp2_with fail
            go_ret
            exact ⟨rfl, below_boxed HB4.out⟩
          · have hd1 : decide (i < 0) = false := by simpa using hneg
            have hd2 : decide ((C.trs.length : Int) ≤ i) = true := by
              have : ¬ (0 ≤ i ∧ i < (C.trs.length : Int)) := fun h => by have h2 := HII.out; rw [isTr_iff.2 h] at h2; cases h2
              simp; omega
            go_wp2_with fail
            go_ret
            exact ⟨rfl, below_boxed HB4.out⟩
        | true =>
          obtain ⟨k, rfl, hk⟩ := isTr_nat hi
          have HR : Hid (rdyL C env ev (k : Int) = rdyV env ev (trAt C.trs (k : Int))) := Lib.hid (if_pos hi)
          have hl60 : C.trs.length ≤ 60 := (few_parts HFF.out).2.1
          have hd1 : decide ((k : Int) < 0) = false := by simp
          have hd2 : decide ((C.trs.length : Int) ≤ (k : Int)) = false := by simp; omega
          have HRD := Lib.hid (fun (W : World) (h : Below w.heap.size w W) (wt wa : Value) => rready_any (trAt C.trs (k : Int)) wt wa (.slice eA env.length ecap) env ev W (by have := few_guard HFF.out hk; omega) (HE.out.below h) (by omega) HEF.out)
          obtain ⟨b, o, cap2, wt, wa, hsl, hcap2, hbl, hst, hhas⟩ := HC.out.tra hk
          injection hsl with e1 e2 e3
          subst e1; subst e3
          have HST := Lib.hid hst
          clear hi hst e2
          go_enter Tryz.func3, Tryz.ntmps3
          go_wp2_with fail
          refine (upH_any _ HL0.out).mono ?_
          rintro e w1 ⟨rfl, hb1⟩
          obtain ⟨x0, x1, x2⟩ := box_later hb1
          have HB1 := Lib.hid hb1
          clear hb1
          go_wp2_with fail
          refine (HF.out _ HB1.out).mono ?_
          rintro e w2 ⟨rfl, hb2⟩
          have hB2 := HB1.out.trans (hb2.mono HB1.out.size)
          clear x0 x1 x2
          obtain ⟨x0, x1, x2⟩ := box_later hB2
          have HB2 := Lib.hid hB2
          rw [HFF.out]
          clear hb2 hB2

          go_wp2_with fail
          refine (HCK.out _ HB2.out).mono ?_
          intro e w3 hp
          obtain ⟨hb3, t, rfl, ht, hT⟩ := npost_yes hp HOK.out
          have HB3 := Lib.hid (HB2.out.trans (hb3.mono HB2.out.size))
          have HT := Lib.hid hT
          clear hb3 hp hT ht x0 x1 x2
          obtain ⟨x0, x1, x2⟩ := box_later HB3.out

          go_wp2_with fail
          refine (ready_any t _ (k : Int) ev C env _ (HLW.out _ HB3.out) HT.out HFF.out (HE.out.below (below_boxed HB3.out)) (by omega) HEF.out).mono ?_
          rintro e w4 ⟨rfl, hb4⟩
          have HB4 := Lib.hid (HB3.out.trans (hb4.mono HB3.out.size))
          clear hb4 x0 x1 x2
          obtain ⟨x0, x1, x2⟩ := box_later HB4.out
          obtain ⟨c0, c1, c2, c3, c4, c5⟩ := HST.out.below (below_boxed HB4.out) hbl
          have HRD4 := Lib.hid (HRD.out w4 (below_boxed HB4.out) wt wa)
          rw [HR.out]
          generalize rdyV env ev (trAt C.trs (k : Int)) = R at *
          obtain ⟨r1, r2⟩ := R
          obtain ⟨aA, acap, bA, bcap, rfl, rfl⟩ := hhas.slices
          generalize trAt C.trs (k : Int) = T at *
          obtain ⟨src, e0, guard, tgts, inner, acts⟩ := T
          simp only at c0 c1 c2 c3 c4 c5
          have hbe1 : (r1 == r1) = true := by simp
          have hbe2 : (r2 == r2) = true := by simp
          generalize tgts.length = tl at *
          generalize acts.length = al at *
          clear HR HST hhas
          go_wp2_with fail
          refine HRD4.out.mono ?_
          rintro e w5 ⟨rfl, hb5⟩
          have HB5 := Lib.hid (HB4.out.trans (hb5.mono HB4.out.size))
          clear hb5
          go_wp2_with fail
          go_ret
          exact ⟨rfl, below_boxed HB5.out⟩
      · have HOK := Lib.hid hok
        clear hok
        go_enter Tryz.func3, Tryz.ntmps3
        go_wp2_with fail
        refine (upH_any _ HL0.out).mono ?_
        rintro e w1 ⟨rfl, hb1⟩
        obtain ⟨x0, x1, x2⟩ := box_later hb1
        have HB1 := Lib.hid hb1
        clear hb1
        go_wp2_with fail
        refine (HF.out _ HB1.out).mono ?_
        rintro e w2 ⟨rfl, hb2⟩
        have hB2 := HB1.out.trans (hb2.mono HB1.out.size)
        clear x0 x1 x2
        obtain ⟨x0, x1, x2⟩ := box_later hB2
        have HB2 := Lib.hid hB2
        rw [HFF.out]
        clear hb2 hB2
        go_wp2_with fail
        refine (HCK.out _ HB2.out).mono ?_
        intro e w3 hp
        obtain ⟨hb3, hv⟩ := npost_no hp HOK.out
        have HB3 := Lib.hid (HB2.out.trans (hb3.mono HB2.out.size))
        clear hb3 hp x0 x1 x2
        rcases hv with ⟨p, rfl⟩ | ⟨p, rfl⟩
        · go_wp2_with fail
          go_ret
          exact ⟨rfl, below_boxed HB3.out⟩
        · go_wp2_with fail
          go_ret
          exact ⟨rfl, below_boxed HB3.out⟩


theorem putIn_le (l : List Int) (i : Int) : (putIn l i).length ≤ l.length + 1 := by
  unfold putIn
  split
  · omega
  · simp
theorem ga_len (C : Ch) (env : List Int) (ev : Int) : ∀ (l : List Int) (a : List Int × Nat), (l.foldl (gaStep C env ev) a).1.length ≤ a.1.length + l.length
  | [], a => by simp
  | s :: r, a => by
    rw [List.foldl_cons, List.length_cons]
    refine Nat.le_trans (ga_len C env ev r _) ?_
    have := putIn_le a.1 (frA env ev C.trs (wayL C.sts s) 0).1
    unfold gaStep
    simp only
    omega
theorem gaL_len {C : Ch} (ht : Tame C.sts) (env : List Int) (ev : Int) (n : Nat) : (gaL C env ev n).1.length ≤ 24 := by
  have h1 := ga_len C env ev (lvL C.sts n) ([], 0)
  have h2 := lvU_len C.sts n C.sts.length
  have h3 := ht.len
  unfold gaL
  unfold lvL at h1 ⊢
  simp only [List.length_nil] at h1
  omega
set_option maxHeartbeats 8000000 in
set_option maxRecDepth 100000 in
theorem hlaw2_any (vs vt ve : Value) (C : Ch) (n : Nat) (env : List Int) (ev : Int) (w : World) (hL : Laid w) (hC : ChHas w vs vt C) (hS : ShortCh C) (hn : n < 4294967296) (hE : NumsAt w ve env) (hes : Short env.length) (hef : ∀ x ∈ env, F64 x) :
    Calls Tryz.prog 4 #[.agg #[.int .i64 C.vars, vs, vt], .int .u32 (n : Int), ve, .int .i64 ev] w fun e w' => e = .returned (.bool true) ∧ Below w.heap.size w w' := by
  obtain ⟨sA, scap, tA, tcap, rfl, rfl⟩ := hC.slices
  have HL0 := Lib.hid (hL.after (below_box w (chBox C.vars (.slice sA C.sts.length scap) (.slice tA C.trs.length tcap))))
  have HLW := Lib.hid (fun (W : World) (h : Below (w.alloc (chBox C.vars (.slice sA C.sts.length scap) (.slice tA C.trs.length tcap))).heap.size (w.alloc (chBox C.vars (.slice sA C.sts.length scap) (.slice tA C.trs.length tcap))) W) => hL.after (below_boxed h))
  have HF := Lib.hid (fun (W : World) (h : Below (w.alloc (chBox C.vars (.slice sA C.sts.length scap) (.slice tA C.trs.length tcap))).heap.size (w.alloc (chBox C.vars (.slice sA C.sts.length scap) (.slice tA C.trs.length tcap))) W) => few_any C.vars (.slice sA C.sts.length scap) (.slice tA C.trs.length tcap) C W (hC.below (below_boxed h)) hS)
  have HC := Lib.hid hC
  have HCH := Lib.hid (fun (W : World) (hF : fewB C = true) (h : Below (w.alloc (chBox C.vars (.slice sA C.sts.length scap) (.slice tA C.trs.length tcap))).heap.size (w.alloc (chBox C.vars (.slice sA C.sts.length scap) (.slice tA C.trs.length tcap))) W) => new_any (.slice sA C.sts.length scap) (.slice tA C.trs.length tcap) C W (hL.after (below_boxed h)) (hC.below (below_boxed h)) hF)
  have HE := Lib.hid hE
  obtain ⟨eA, ecap, rfl, hec, _⟩ := hE
  have HEF := Lib.hid hef
  unfold Short at hes
  have hnn := neq_nil_nil
  have hnc := fun p W => neq_code_any p W
  have hns := fun p W => neq_spot_any p W
  clear hL hC hS hef
  cases hf : fewB C with
  | false =>
    have HFF := Lib.hid hf
    clear hf
    go_enter Tryz.func4, Tryz.ntmps4
    go_wp2_with fail
    refine (upH_any _ HL0.out).mono ?_
    rintro e w1 ⟨rfl, hb1⟩
    obtain ⟨x0, x1, x2⟩ := box_later hb1
    have HB1 := Lib.hid hb1
    clear hb1
    go_wp2_with fail
    refine (HF.out _ HB1.out).mono ?_
    rintro e w2 ⟨rfl, hb2⟩
    have hB2 := HB1.out.trans (hb2.mono HB1.out.size)
    clear x0 x1 x2
    obtain ⟨x0, x1, x2⟩ := box_later hB2
    have HB2 := Lib.hid hB2
    rw [HFF.out]
    clear hb2 hB2
    go_wp2_with fail
    go_ret
    exact ⟨rfl, below_boxed HB2.out⟩
  | true =>
    have HFF := Lib.hid hf
    clear hf
    by_cases h40 : 40 < env.length
    · have h40b : decide ((40 : Int) < (env.length : Int)) = true := by simp; omega
      go_enter Tryz.func4, Tryz.ntmps4
      go_wp2_with fail
      refine (upH_any _ HL0.out).mono ?_
      rintro e w1 ⟨rfl, hb1⟩
      obtain ⟨x0, x1, x2⟩ := box_later hb1
      have HB1 := Lib.hid hb1
      clear hb1
      go_wp2_with fail
      refine (HF.out _ HB1.out).mono ?_
      rintro e w2 ⟨rfl, hb2⟩
      have hB2 := HB1.out.trans (hb2.mono HB1.out.size)
      clear x0 x1 x2
      obtain ⟨x0, x1, x2⟩ := box_later hB2
      have HB2 := Lib.hid hB2
      rw [HFF.out]
      clear hb2 hB2
      go_wp2_with fail
      go_ret
      exact ⟨rfl, below_boxed HB2.out⟩
    · have h40b : decide ((40 : Int) < (env.length : Int)) = false := by simp; omega
      have HCK := Lib.hid (fun (W : World) h => HCH.out W HFF.out h)
      by_cases hok : chk hasTB C = .ok
      · have HOK := Lib.hid hok
        have hta := tame_of hok
        have hlen := hta.len
        have HTA := Lib.hid hta
        have HRT := Lib.hid (rooted_of hok)
        clear hok hta

        go_enter Tryz.func4, Tryz.ntmps4
        go_wp2_with fail
        refine (upH_any _ HL0.out).mono ?_
        rintro e w1 ⟨rfl, hb1⟩
        obtain ⟨x0, x1, x2⟩ := box_later hb1
        have HB1 := Lib.hid hb1
        clear hb1
        go_wp2_with fail
        refine (HF.out _ HB1.out).mono ?_
        rintro e w2 ⟨rfl, hb2⟩
        have hB2 := HB1.out.trans (hb2.mono HB1.out.size)
        clear x0 x1 x2
        obtain ⟨x0, x1, x2⟩ := box_later hB2
        have HB2 := Lib.hid hB2
        rw [HFF.out]
        clear hb2 hB2

        go_wp2_with fail
        refine (HCK.out _ HB2.out).mono ?_
        intro e w3 hp
        obtain ⟨hb3, t, rfl, ht, hT⟩ := npost_yes hp HOK.out
        have HB3 := Lib.hid (HB2.out.trans (hb3.mono HB2.out.size))
        have HT := Lib.hid hT
        clear hb3 hp hT ht x0 x1 x2
        obtain ⟨x0, x1, x2⟩ := box_later HB3.out
        have HGL := Lib.hid (gaL_len HTA.out env ev n)
        go_wp2_with fail
        refine (gather_any t n _ ev C env _ (HLW.out _ HB3.out) HT.out HFF.out HTA.out HRT.out hn (HE.out.below (below_boxed HB3.out)) (by omega) HEF.out).mono ?_
        rintro e w4 ⟨hb4, v4, rfl, ho4⟩
        have HB4 := Lib.hid (HB3.out.trans (hb4.mono HB3.out.size))
        have HO4 := Lib.hid (list_of_own ho4)
        clear hb4 ho4 x0 x1 x2
        obtain ⟨x0, x1, x2⟩ := box_later HB4.out
        go_wp2_with fail
        refine (rgather_any n _ _ _ ev C env _ (HC.out.below (below_boxed HB4.out)) HFF.out HTA.out hn (HE.out.below (below_boxed HB4.out)) (by omega) HEF.out).mono ?_
        rintro e w5 ⟨hb5, v5, rfl, ho5⟩
        have HB5 := Lib.hid (HB4.out.trans (hb5.mono HB4.out.size))
        have HO5 := Lib.hid (list_of_own ho5)
        have HO45 := Lib.hid (HO4.out.below hb5)
        generalize gaL C env ev n = X at *
        obtain ⟨l, q⟩ := X
        simp only at HGL HO5 HO45
        clear hb5 ho5 x0 x1 x2 HO4
        go_wp2_with fail
        refine (ints_same _ _ l _ HO45.out HO5.out (by have := HGL.out; omega)).mono ?_
        rintro e w6 ⟨rfl, hb6⟩
        have HB6 := Lib.hid (HB5.out.trans (hb6.mono HB5.out.size))
        clear hb6
        go_wp2_with fail
        go_ret
        exact ⟨rfl, below_boxed HB6.out⟩
      · have HOK := Lib.hid hok
        clear hok
        go_enter Tryz.func4, Tryz.ntmps4
        go_wp2_with fail
        refine (upH_any _ HL0.out).mono ?_
        rintro e w1 ⟨rfl, hb1⟩
        obtain ⟨x0, x1, x2⟩ := box_later hb1
        have HB1 := Lib.hid hb1
        clear hb1
        go_wp2_with fail
        refine (HF.out _ HB1.out).mono ?_
        rintro e w2 ⟨rfl, hb2⟩
        have hB2 := HB1.out.trans (hb2.mono HB1.out.size)
        clear x0 x1 x2
        obtain ⟨x0, x1, x2⟩ := box_later hB2
        have HB2 := Lib.hid hB2
        rw [HFF.out]
        clear hb2 hB2
        go_wp2_with fail
        refine (HCK.out _ HB2.out).mono ?_
        intro e w3 hp
        obtain ⟨hb3, hv⟩ := npost_no hp HOK.out
        have HB3 := Lib.hid (HB2.out.trans (hb3.mono HB2.out.size))
        clear hb3 hp x0 x1 x2
        rcases hv with ⟨p, rfl⟩ | ⟨p, rfl⟩
        · go_wp2_with fail
          go_ret
          exact ⟨rfl, below_boxed HB3.out⟩
        · go_wp2_with fail
          go_ret
          exact ⟨rfl, below_boxed HB3.out⟩

end Go.Proofs.YtfmlicpholjjhaaGreatDoor
