/- The walk of the law TreeOrder: true for any chart and any numbers. -/
import Derived.Test.YteepfpmeijnkbaaGreatDoorTup
import Derived.Test.YteepfpmeijnkbaaGreatDoorCarg
namespace Go.Proofs.YteepfpmeijnkbaaGreatDoor
open Go.ChangeShapes Go.WideShapes Go.ChangeAt Go.RowKit
set_option linter.unusedVariables false

/-- New of a chart that may not be: no tree, and an error -/
theorem NPost.not {C : Ch} {w w' : World} {e : Ending} (h : NPost C w e w') (hn : ¬ chk hasTB C = .ok) : Below w.heap.size w w' ∧ ((∃ p, e = .returned (.tuple #[.pointer none, .iface 49 p])) ∨ ∃ p, e = .returned (.tuple #[.pointer none, .iface 63 p])) := by
  unfold NPost at h
  cases hc : chk hasTB C with
  | ok => exact absurd hc hn
  | large =>
    rw [hc] at h
    exact ⟨h.1, .inl ⟨_, h.2⟩⟩
  | spot k c =>
    rw [hc] at h
    obtain ⟨hb, g, he, _⟩ := h
    exact ⟨hb, .inr ⟨_, he⟩⟩
theorem NPost.ok {C : Ch} {w w' : World} {e : Ending} (h : NPost C w e w') (hk : chk hasTB C = .ok) : Below w.heap.size w w' ∧ ∃ g, e = .returned (.tuple #[.pointer (some ⟨g, 0, none⟩), .nilIface]) ∧ w.heap.size ≤ g ∧ TreeAt w' g C := by
  unfold NPost at h
  rw [hk] at h
  exact h
theorem two_list {W : World} {g : Nat} {x y : Int} (h : Blk W g 3 #[.int .i64 x, .int .i64 y]) : ListAt W (.slice (some ⟨g, 0, none⟩) 2 2) [x, y] :=
  ⟨_, 2, rfl, Nat.le_refl _, fun i v hx => by
    match i, hx with
    | 0, hx => simp at hx; subst hx; exact ⟨g, 0, rfl, h.lt, h.cell 0⟩
    | 1, hx => simp at hx; subst hx; exact ⟨g, 0, rfl, h.lt, h.cell 1⟩
    | i + 2, hx => simp at hx⟩
theorem cIn_irr (S : List St) (x : Int) : cIn S x x = false := by
  rw [Bool.eq_false_iff]
  intro h
  have := cIn_range h
  omega
theorem cIn_anti {S : List St} {x y : Int} (h : cIn S x y = true) : cIn S y x = false := by
  rw [Bool.eq_false_iff]
  intro h'
  have := cIn_range h
  have := cIn_range h'
  omega
theorem belowN_bit (S : List St) (x : Int) (k : Nat) (hk : k < S.length) : decide (belowN S x / 2 ^ k % 2 = 1) = (cIn S (k : Int) x && !histB (stAt S (k : Int)).kind) := by
  unfold belowN
  rw [bset_bit _ _ _ hk]
  unfold belowP
  cases cIn S (k : Int) x && !histB (stAt S (k : Int)).kind <;> rfl
theorem belowN_small (S : List St) (x : Int) (h : S.length ≤ 31) : belowN S x < 2 ^ 32 := Nat.lt_of_lt_of_le (bset_lt _ _) (Nat.pow_le_pow_right (by decide) (by omega))
set_option maxHeartbeats 4000000 in
set_option maxRecDepth 100000 in
theorem tlaw1_any (vs vt : Value) (C : Ch) (x y z : Int) (w : World) (hL : Laid w) (hC : ChHas w vs vt C) (hS : ShortCh C) :
    Calls Tryz.prog 3 #[.agg #[.int .i64 C.vars, vs, vt], .int .i64 x, .int .i64 y, .int .i64 z] w fun e w' => e = .returned (.bool true) ∧ Below w.heap.size w w' := by
  obtain ⟨sA, scap, tA, tcap, rfl, rfl⟩ := hC.slices
  have HL := Lib.hid hL
  have HL0 := Lib.hid (hL.after (below_box w (chBox C.vars (.slice sA C.sts.length scap) (.slice tA C.trs.length tcap))))
  have HF := Lib.hid (fun (W : World) (h : Below (w.alloc (chBox C.vars (.slice sA C.sts.length scap) (.slice tA C.trs.length tcap))).heap.size (w.alloc (chBox C.vars (.slice sA C.sts.length scap) (.slice tA C.trs.length tcap))) W) => few_any C.vars (.slice sA C.sts.length scap) (.slice tA C.trs.length tcap) C W (hC.below (below_boxed h)) hS)
  have HC := Lib.hid hC
  have HCH := Lib.hid (fun (W : World) (hF : fewB C = true) (h : Below (w.alloc (chBox C.vars (.slice sA C.sts.length scap) (.slice tA C.trs.length tcap))).heap.size (w.alloc (chBox C.vars (.slice sA C.sts.length scap) (.slice tA C.trs.length tcap))) W) => new_any (.slice sA C.sts.length scap) (.slice tA C.trs.length tcap) C W (hL.after (below_boxed h)) (hC.below (below_boxed h)) hF)
  have hnn := neq_nil_nil
  have hnc := fun p W => neq_code_any p W
  have hns := fun p W => neq_spot_any p W
  clear hL hC hS
  cases hf : fewB C with
  | false =>
    have HFF := Lib.hid hf
    clear hf
    go_enter Tryz.func3, Tryz.ntmps3
    go_wp2_with fail
    refine (upT_any _ HL0.out).mono ?_
    rintro e w1 ⟨rfl, hb1⟩
    obtain ⟨x0, x1, x2⟩ := box_later hb1
    have HB1 := Lib.hid hb1
    clear hb1
    go_wp2_with fail
    refine (HF.out _ HB1.out).mono ?_
    rintro e w2 ⟨rfl, hb2⟩
    have HB2 := Lib.hid (HB1.out.trans (hb2.mono HB1.out.size))
    rw [HFF.out]
    clear hb2
    go_wp2_with fail
    go_ret
    exact ⟨rfl, below_boxed HB2.out⟩
  | true =>
    have HCK := Lib.hid (fun W => HCH.out W hf)
    have HFF := Lib.hid hf
    clear hf HCH
    by_cases hok : chk hasTB C = .ok
    · have HOK := Lib.hid hok
      have HRT := Lib.hid (rooted_of hok)
      have hsz := (chk_ok hok).1
      have hlen : C.sts.length ≤ 24 := by
        unfold sizedB at hsz
        simp only [Bool.and_eq_true, decide_eq_true_eq, fromB_true] at hsz
        omega
      have HIRR := Lib.hid (cIn_irr C.sts x)
      have HANTI := Lib.hid (fun h : cIn C.sts x y = true => cIn_anti h)
      have HTRANS := Lib.hid (fun (h : cIn C.sts x y = true) (h' : cIn C.sts y z = true) => cIn_trans x.toNat x y z (Nat.le_refl _) h h')
      have HJ := Lib.hid (jnT_spec C.sts [x, y])
      clear hok hsz
      go_enter Tryz.func3, Tryz.ntmps3
      go_wp2_with fail
      refine (upT_any _ HL0.out).mono ?_
      rintro e w1 ⟨rfl, hb1⟩
      obtain ⟨x0, x1, x2⟩ := box_later hb1
      have HB1 := Lib.hid hb1
      clear hb1
      go_wp2_with fail
      refine (HF.out _ HB1.out).mono ?_
      rintro e w2 ⟨rfl, hb2⟩
      have hB2 := HB1.out.trans (hb2.mono HB1.out.size)
      clear x0 x1 x2
      obtain ⟨x0, x1, x2⟩ := box_later hB2
      have HB2 := Lib.hid hB2
      rw [HFF.out]
      clear hb2 hB2
      go_wp2_with fail
      refine (HCK.out _ HB2.out).mono ?_
      intro e w3 hp
      obtain ⟨hb3, t, rfl, ht, hT⟩ := hp.ok HOK.out
      have HB3 := Lib.hid (HB2.out.trans (hb3.mono HB2.out.size))
      have HT := Lib.hid hT
      clear hb3 hp hT ht x0 x1 x2
      have HIN := Lib.hid (fun a b => inT_any t a b C w3 HT.out (by omega) HRT.out)
      go_wp2_with fail
      cases h1 : cIn C.sts x y with
      | false =>
        have H1 := Lib.hid h1
        clear h1
        go_wp2_with (go_at_call 8; refine (HIN.out _ _).mono ?_; rintro e w' ⟨rfl, rfl⟩; first | rw [HIRR.out] | rw [H1.out])
        have HB4 := Lib.hid (HB3.out.alloc HB3.out.size (.cells #[.int .i64 x, .int .i64 y] 3))
        have HT4 := Lib.hid (HT.out.below (below_box w3 (.cells #[.int .i64 x, .int .i64 y] 3)))
        have HLI := Lib.hid (two_list (Blk.new w3 3 #[.int .i64 x, .int .i64 y]))
        refine (join_any t _ [x, y] C _ HT4.out (by omega) HRT.out HLI.out (by unfold Short; simp)).mono ?_
        rintro e w4 ⟨rfl, hw4⟩
        subst hw4
        have HIN4 := Lib.hid (fun a b => inT_any t a b C _ HT4.out (by omega) HRT.out)
        have HKD4 := Lib.hid (fun a => kindT_any t a C _ HT4.out (by omega))
        clear HLI
        generalize jnT C.sts [x, y] = m at *
        generalize World.alloc w3 (.cells #[.int .i64 x, .int .i64 y] 3) = w4 at *
        by_cases hm : 0 ≤ m
        · obtain ⟨j1, j2, j3⟩ := HJ.out hm
          have J1 : Hid (cIn C.sts x m = true) := Lib.hid (j3 0 (by simp))
          have J2 : Hid (cIn C.sts y m = true) := Lib.hid (j3 1 (by simp))
          have J3 : Hid (kindT C.sts m = 2) := Lib.hid (by unfold kindT; rw [if_pos j1]; exact j2)
          clear j1 j2 j3
          go_wp2_with fail
          refine (HIN4.out _ _).mono ?_
          rintro e w5 ⟨rfl, rfl⟩
          rw [J1.out]
          go_wp2_with fail
          refine (HIN4.out _ _).mono ?_
          rintro e w5 ⟨rfl, rfl⟩
          rw [J2.out]
          go_wp2_with fail
          refine (HKD4.out _).mono ?_
          rintro e w5 ⟨rfl, rfl⟩
          rw [J3.out]
          go_wp2_with fail
          clear HIN4 HKD4 J1 J2 J3 HJ
          go_loopw [14] (fun i wr => ∃ k : Nat, k ≤ C.sts.length ∧ i = .int .i64 (k : Int) ∧ Below (w.alloc (chBox C.vars (.slice sA C.sts.length scap) (.slice tA C.trs.length tcap))).heap.size (w.alloc (chBox C.vars (.slice sA C.sts.length scap) (.slice tA C.trs.length tcap))) wr ∧ Hid (TreeAt wr t C)) (fun i _ => C.sts.length - (intOf i).toNat)
          case atStart => exact ⟨0, Nat.zero_le _, rfl, HB4.out, HT4⟩
          case round =>
            clear HB4 HT4 HB3 HT HIN HB2 HB1
            obtain ⟨k, hk, rfl, hb, hT⟩ := hrel
            obtain ⟨wo, rfl⟩ : ∃ wo : World, wo = wr := ⟨_, rfl⟩
            obtain ⟨x0, x1, x2⟩ := box_later hb
            have HBW := Lib.hid hb
            clear hb
            by_cases hlt : k < C.sts.length
            · have HBIT := Lib.hid (belowN_bit C.sts x k hlt)
              have HSM := Lib.hid (belowN_small C.sts x (by omega))
              have HPA := Lib.hid (past_any C.vars (.slice sA C.sts.length scap) (.slice tA C.trs.length tcap) C k wo (HC.out.below (below_boxed HBW.out)) (by omega) hlt)
              generalize histB (stAt C.sts (k : Int)).kind = past at *
              cases past with
              | true =>
                go_wp2_with fail
                refine HPA.out.mono ?_
                rintro e w5 ⟨rfl, hb5⟩
                have HB5 := Lib.hid (HBW.out.trans (hb5.mono HBW.out.size))
                have HT5 := Lib.hid (hT.out.below hb5)
                clear hb5 x0 x1 x2
                go_wp2_with fail
                refine (below_any t x C w5 HT5.out (by omega) HRT.out).mono ?_
                rintro e w6 ⟨rfl, rfl⟩
                go_wp2_with fail
                refine (hasBit_any _ k HSM.out (by omega) _).mono ?_
                rintro e w6 ⟨rfl, rfl⟩
                rw [HBIT.out]
                go_wp2_with fail
                refine (inT_any t (k : Int) x C w5 HT5.out (by omega) HRT.out).mono ?_
                rintro e w6 ⟨rfl, rfl⟩
                generalize cIn C.sts (k : Int) x = b at *
                cases b with
                | true =>
                  go_wp2_with fail
                  go_roundw
                  case rel => exact ⟨k + 1, by omega, by go_num, HB5.out, HT5⟩
                  case measure => simp [intOf]; omega
                | false =>
                  go_wp2_with fail
                  go_roundw
                  case rel => exact ⟨k + 1, by omega, by go_num, HB5.out, HT5⟩
                  case measure => simp [intOf]; omega
              | false =>
                go_wp2_with fail
                refine HPA.out.mono ?_
                rintro e w5 ⟨rfl, hb5⟩
                have HB5 := Lib.hid (HBW.out.trans (hb5.mono HBW.out.size))
                have HT5 := Lib.hid (hT.out.below hb5)
                clear hb5 x0 x1 x2
                go_wp2_with fail
                refine (below_any t x C w5 HT5.out (by omega) HRT.out).mono ?_
                rintro e w6 ⟨rfl, rfl⟩
                go_wp2_with fail
                refine (hasBit_any _ k HSM.out (by omega) _).mono ?_
                rintro e w6 ⟨rfl, rfl⟩
                rw [HBIT.out]
                go_wp2_with fail
                refine (inT_any t (k : Int) x C w5 HT5.out (by omega) HRT.out).mono ?_
                rintro e w6 ⟨rfl, rfl⟩
                generalize cIn C.sts (k : Int) x = b at *
                cases b with
                | true =>
                  go_wp2_with fail
                  go_roundw
                  case rel => exact ⟨k + 1, by omega, by go_num, HB5.out, HT5⟩
                  case measure => simp [intOf]; omega
                | false =>
                  go_wp2_with fail
                  go_roundw
                  case rel => exact ⟨k + 1, by omega, by go_num, HB5.out, HT5⟩
                  case measure => simp [intOf]; omega
            · obtain rfl : k = C.sts.length := by omega
              go_wp2_with fail
              go_ret
              exact ⟨rfl, below_boxed HBW.out⟩
        · have hm2 : decide (0 ≤ m) = false := by simpa using hm
          go_wp2_with fail
          clear HIN4 HKD4 HJ
          go_loopw [14] (fun i wr => ∃ k : Nat, k ≤ C.sts.length ∧ i = .int .i64 (k : Int) ∧ Below (w.alloc (chBox C.vars (.slice sA C.sts.length scap) (.slice tA C.trs.length tcap))).heap.size (w.alloc (chBox C.vars (.slice sA C.sts.length scap) (.slice tA C.trs.length tcap))) wr ∧ Hid (TreeAt wr t C)) (fun i _ => C.sts.length - (intOf i).toNat)
          case atStart => exact ⟨0, Nat.zero_le _, rfl, HB4.out, HT4⟩
          case round =>
            clear HB4 HT4 HB3 HT HIN HB2 HB1
            obtain ⟨k, hk, rfl, hb, hT⟩ := hrel
            obtain ⟨wo, rfl⟩ : ∃ wo : World, wo = wr := ⟨_, rfl⟩
            obtain ⟨x0, x1, x2⟩ := box_later hb
            have HBW := Lib.hid hb
            clear hb
            by_cases hlt : k < C.sts.length
            · have HBIT := Lib.hid (belowN_bit C.sts x k hlt)
              have HSM := Lib.hid (belowN_small C.sts x (by omega))
              have HPA := Lib.hid (past_any C.vars (.slice sA C.sts.length scap) (.slice tA C.trs.length tcap) C k wo (HC.out.below (below_boxed HBW.out)) (by omega) hlt)
              generalize histB (stAt C.sts (k : Int)).kind = past at *
              cases past with
              | true =>
                go_wp2_with fail
                refine HPA.out.mono ?_
                rintro e w5 ⟨rfl, hb5⟩
                have HB5 := Lib.hid (HBW.out.trans (hb5.mono HBW.out.size))
                have HT5 := Lib.hid (hT.out.below hb5)
                clear hb5 x0 x1 x2
                go_wp2_with fail
                refine (below_any t x C w5 HT5.out (by omega) HRT.out).mono ?_
                rintro e w6 ⟨rfl, rfl⟩
                go_wp2_with fail
                refine (hasBit_any _ k HSM.out (by omega) _).mono ?_
                rintro e w6 ⟨rfl, rfl⟩
                rw [HBIT.out]
                go_wp2_with fail
                refine (inT_any t (k : Int) x C w5 HT5.out (by omega) HRT.out).mono ?_
                rintro e w6 ⟨rfl, rfl⟩
                generalize cIn C.sts (k : Int) x = b at *
                cases b with
                | true =>
                  go_wp2_with fail
                  go_roundw
                  case rel => exact ⟨k + 1, by omega, by go_num, HB5.out, HT5⟩
                  case measure => simp [intOf]; omega
                | false =>
                  go_wp2_with fail
                  go_roundw
                  case rel => exact ⟨k + 1, by omega, by go_num, HB5.out, HT5⟩
                  case measure => simp [intOf]; omega
              | false =>
                go_wp2_with fail
                refine HPA.out.mono ?_
                rintro e w5 ⟨rfl, hb5⟩
                have HB5 := Lib.hid (HBW.out.trans (hb5.mono HBW.out.size))
                have HT5 := Lib.hid (hT.out.below hb5)
                clear hb5 x0 x1 x2
                go_wp2_with fail
                refine (below_any t x C w5 HT5.out (by omega) HRT.out).mono ?_
                rintro e w6 ⟨rfl, rfl⟩
                go_wp2_with fail
                refine (hasBit_any _ k HSM.out (by omega) _).mono ?_
                rintro e w6 ⟨rfl, rfl⟩
                rw [HBIT.out]
                go_wp2_with fail
                refine (inT_any t (k : Int) x C w5 HT5.out (by omega) HRT.out).mono ?_
                rintro e w6 ⟨rfl, rfl⟩
                generalize cIn C.sts (k : Int) x = b at *
                cases b with
                | true =>
                  go_wp2_with fail
                  go_roundw
                  case rel => exact ⟨k + 1, by omega, by go_num, HB5.out, HT5⟩
                  case measure => simp [intOf]; omega
                | false =>
                  go_wp2_with fail
                  go_roundw
                  case rel => exact ⟨k + 1, by omega, by go_num, HB5.out, HT5⟩
                  case measure => simp [intOf]; omega
            · obtain rfl : k = C.sts.length := by omega
              go_wp2_with fail
              go_ret
              exact ⟨rfl, below_boxed HBW.out⟩
      | true =>
        have H2 := Lib.hid (HANTI.out h1)
        cases h3 : cIn C.sts y z with
        | false =>
          have H1 := Lib.hid h1
          have H3 := Lib.hid h3
          clear h1 h3
          go_wp2_with (go_at_call 8; refine (HIN.out _ _).mono ?_; rintro e w' ⟨rfl, rfl⟩; first | rw [HIRR.out] | rw [H1.out] | rw [H2.out] | rw [H3.out])
          have HB4 := Lib.hid (HB3.out.alloc HB3.out.size (.cells #[.int .i64 x, .int .i64 y] 3))
          have HT4 := Lib.hid (HT.out.below (below_box w3 (.cells #[.int .i64 x, .int .i64 y] 3)))
          have HLI := Lib.hid (two_list (Blk.new w3 3 #[.int .i64 x, .int .i64 y]))
          refine (join_any t _ [x, y] C _ HT4.out (by omega) HRT.out HLI.out (by unfold Short; simp)).mono ?_
          rintro e w4 ⟨rfl, hw4⟩
          subst hw4
          have HIN4 := Lib.hid (fun a b => inT_any t a b C _ HT4.out (by omega) HRT.out)
          have HKD4 := Lib.hid (fun a => kindT_any t a C _ HT4.out (by omega))
          clear HLI
          generalize jnT C.sts [x, y] = m at *
          generalize World.alloc w3 (.cells #[.int .i64 x, .int .i64 y] 3) = w4 at *
          by_cases hm : 0 ≤ m
          · obtain ⟨j1, j2, j3⟩ := HJ.out hm
            have J1 : Hid (cIn C.sts x m = true) := Lib.hid (j3 0 (by simp))
            have J2 : Hid (cIn C.sts y m = true) := Lib.hid (j3 1 (by simp))
            have J3 : Hid (kindT C.sts m = 2) := Lib.hid (by unfold kindT; rw [if_pos j1]; exact j2)
            clear j1 j2 j3
            go_wp2_with fail
            refine (HIN4.out _ _).mono ?_
            rintro e w5 ⟨rfl, rfl⟩
            rw [J1.out]
            go_wp2_with fail
            refine (HIN4.out _ _).mono ?_
            rintro e w5 ⟨rfl, rfl⟩
            rw [J2.out]
            go_wp2_with fail
            refine (HKD4.out _).mono ?_
            rintro e w5 ⟨rfl, rfl⟩
            rw [J3.out]
            go_wp2_with fail
            clear HIN4 HKD4 J1 J2 J3 HJ
            go_loopw [14] (fun i wr => ∃ k : Nat, k ≤ C.sts.length ∧ i = .int .i64 (k : Int) ∧ Below (w.alloc (chBox C.vars (.slice sA C.sts.length scap) (.slice tA C.trs.length tcap))).heap.size (w.alloc (chBox C.vars (.slice sA C.sts.length scap) (.slice tA C.trs.length tcap))) wr ∧ Hid (TreeAt wr t C)) (fun i _ => C.sts.length - (intOf i).toNat)
            case atStart => exact ⟨0, Nat.zero_le _, rfl, HB4.out, HT4⟩
            case round =>
              clear HB4 HT4 HB3 HT HIN HB2 HB1
              obtain ⟨k, hk, rfl, hb, hT⟩ := hrel
              obtain ⟨wo, rfl⟩ : ∃ wo : World, wo = wr := ⟨_, rfl⟩
              obtain ⟨x0, x1, x2⟩ := box_later hb
              have HBW := Lib.hid hb
              clear hb
              by_cases hlt : k < C.sts.length
              · have HBIT := Lib.hid (belowN_bit C.sts x k hlt)
                have HSM := Lib.hid (belowN_small C.sts x (by omega))
                have HPA := Lib.hid (past_any C.vars (.slice sA C.sts.length scap) (.slice tA C.trs.length tcap) C k wo (HC.out.below (below_boxed HBW.out)) (by omega) hlt)
                generalize histB (stAt C.sts (k : Int)).kind = past at *
                cases past with
                | true =>
                  go_wp2_with fail
                  refine HPA.out.mono ?_
                  rintro e w5 ⟨rfl, hb5⟩
                  have HB5 := Lib.hid (HBW.out.trans (hb5.mono HBW.out.size))
                  have HT5 := Lib.hid (hT.out.below hb5)
                  clear hb5 x0 x1 x2
                  go_wp2_with fail
                  refine (below_any t x C w5 HT5.out (by omega) HRT.out).mono ?_
                  rintro e w6 ⟨rfl, rfl⟩
                  go_wp2_with fail
                  refine (hasBit_any _ k HSM.out (by omega) _).mono ?_
                  rintro e w6 ⟨rfl, rfl⟩
                  rw [HBIT.out]
                  go_wp2_with fail
                  refine (inT_any t (k : Int) x C w5 HT5.out (by omega) HRT.out).mono ?_
                  rintro e w6 ⟨rfl, rfl⟩
                  generalize cIn C.sts (k : Int) x = b at *
                  cases b with
                  | true =>
                    go_wp2_with fail
                    go_roundw
                    case rel => exact ⟨k + 1, by omega, by go_num, HB5.out, HT5⟩
                    case measure => simp [intOf]; omega
                  | false =>
                    go_wp2_with fail
                    go_roundw
                    case rel => exact ⟨k + 1, by omega, by go_num, HB5.out, HT5⟩
                    case measure => simp [intOf]; omega
                | false =>
                  go_wp2_with fail
                  refine HPA.out.mono ?_
                  rintro e w5 ⟨rfl, hb5⟩
                  have HB5 := Lib.hid (HBW.out.trans (hb5.mono HBW.out.size))
                  have HT5 := Lib.hid (hT.out.below hb5)
                  clear hb5 x0 x1 x2
                  go_wp2_with fail
                  refine (below_any t x C w5 HT5.out (by omega) HRT.out).mono ?_
                  rintro e w6 ⟨rfl, rfl⟩
                  go_wp2_with fail
                  refine (hasBit_any _ k HSM.out (by omega) _).mono ?_
                  rintro e w6 ⟨rfl, rfl⟩
                  rw [HBIT.out]
                  go_wp2_with fail
                  refine (inT_any t (k : Int) x C w5 HT5.out (by omega) HRT.out).mono ?_
                  rintro e w6 ⟨rfl, rfl⟩
                  generalize cIn C.sts (k : Int) x = b at *
                  cases b with
                  | true =>
                    go_wp2_with fail
                    go_roundw
                    case rel => exact ⟨k + 1, by omega, by go_num, HB5.out, HT5⟩
                    case measure => simp [intOf]; omega
                  | false =>
                    go_wp2_with fail
                    go_roundw
                    case rel => exact ⟨k + 1, by omega, by go_num, HB5.out, HT5⟩
                    case measure => simp [intOf]; omega
              · obtain rfl : k = C.sts.length := by omega
                go_wp2_with fail
                go_ret
                exact ⟨rfl, below_boxed HBW.out⟩
          · have hm2 : decide (0 ≤ m) = false := by simpa using hm
            go_wp2_with fail
            clear HIN4 HKD4 HJ
            go_loopw [14] (fun i wr => ∃ k : Nat, k ≤ C.sts.length ∧ i = .int .i64 (k : Int) ∧ Below (w.alloc (chBox C.vars (.slice sA C.sts.length scap) (.slice tA C.trs.length tcap))).heap.size (w.alloc (chBox C.vars (.slice sA C.sts.length scap) (.slice tA C.trs.length tcap))) wr ∧ Hid (TreeAt wr t C)) (fun i _ => C.sts.length - (intOf i).toNat)
            case atStart => exact ⟨0, Nat.zero_le _, rfl, HB4.out, HT4⟩
            case round =>
              clear HB4 HT4 HB3 HT HIN HB2 HB1
              obtain ⟨k, hk, rfl, hb, hT⟩ := hrel
              obtain ⟨wo, rfl⟩ : ∃ wo : World, wo = wr := ⟨_, rfl⟩
              obtain ⟨x0, x1, x2⟩ := box_later hb
              have HBW := Lib.hid hb
              clear hb
              by_cases hlt : k < C.sts.length
              · have HBIT := Lib.hid (belowN_bit C.sts x k hlt)
                have HSM := Lib.hid (belowN_small C.sts x (by omega))
                have HPA := Lib.hid (past_any C.vars (.slice sA C.sts.length scap) (.slice tA C.trs.length tcap) C k wo (HC.out.below (below_boxed HBW.out)) (by omega) hlt)
                generalize histB (stAt C.sts (k : Int)).kind = past at *
                cases past with
                | true =>
                  go_wp2_with fail
                  refine HPA.out.mono ?_
                  rintro e w5 ⟨rfl, hb5⟩
                  have HB5 := Lib.hid (HBW.out.trans (hb5.mono HBW.out.size))
                  have HT5 := Lib.hid (hT.out.below hb5)
                  clear hb5 x0 x1 x2
                  go_wp2_with fail
                  refine (below_any t x C w5 HT5.out (by omega) HRT.out).mono ?_
                  rintro e w6 ⟨rfl, rfl⟩
                  go_wp2_with fail
                  refine (hasBit_any _ k HSM.out (by omega) _).mono ?_
                  rintro e w6 ⟨rfl, rfl⟩
                  rw [HBIT.out]
                  go_wp2_with fail
                  refine (inT_any t (k : Int) x C w5 HT5.out (by omega) HRT.out).mono ?_
                  rintro e w6 ⟨rfl, rfl⟩
                  generalize cIn C.sts (k : Int) x = b at *
                  cases b with
                  | true =>
                    go_wp2_with fail
                    go_roundw
                    case rel => exact ⟨k + 1, by omega, by go_num, HB5.out, HT5⟩
                    case measure => simp [intOf]; omega
                  | false =>
                    go_wp2_with fail
                    go_roundw
                    case rel => exact ⟨k + 1, by omega, by go_num, HB5.out, HT5⟩
                    case measure => simp [intOf]; omega
                | false =>
                  go_wp2_with fail
                  refine HPA.out.mono ?_
                  rintro e w5 ⟨rfl, hb5⟩
                  have HB5 := Lib.hid (HBW.out.trans (hb5.mono HBW.out.size))
                  have HT5 := Lib.hid (hT.out.below hb5)
                  clear hb5 x0 x1 x2
                  go_wp2_with fail
                  refine (below_any t x C w5 HT5.out (by omega) HRT.out).mono ?_
                  rintro e w6 ⟨rfl, rfl⟩
                  go_wp2_with fail
                  refine (hasBit_any _ k HSM.out (by omega) _).mono ?_
                  rintro e w6 ⟨rfl, rfl⟩
                  rw [HBIT.out]
                  go_wp2_with fail
                  refine (inT_any t (k : Int) x C w5 HT5.out (by omega) HRT.out).mono ?_
                  rintro e w6 ⟨rfl, rfl⟩
                  generalize cIn C.sts (k : Int) x = b at *
                  cases b with
                  | true =>
                    go_wp2_with fail
                    go_roundw
                    case rel => exact ⟨k + 1, by omega, by go_num, HB5.out, HT5⟩
                    case measure => simp [intOf]; omega
                  | false =>
                    go_wp2_with fail
                    go_roundw
                    case rel => exact ⟨k + 1, by omega, by go_num, HB5.out, HT5⟩
                    case measure => simp [intOf]; omega
              · obtain rfl : k = C.sts.length := by omega
                go_wp2_with fail
                go_ret
                exact ⟨rfl, below_boxed HBW.out⟩
        | true =>
          have H4 := Lib.hid (HTRANS.out h1 h3)
          have H1 := Lib.hid h1
          have H3 := Lib.hid h3
          clear h1 h3
          go_wp2_with (go_at_call 8; refine (HIN.out _ _).mono ?_; rintro e w' ⟨rfl, rfl⟩; first | rw [HIRR.out] | rw [H1.out] | rw [H2.out] | rw [H3.out] | rw [H4.out])
          have HB4 := Lib.hid (HB3.out.alloc HB3.out.size (.cells #[.int .i64 x, .int .i64 y] 3))
          have HT4 := Lib.hid (HT.out.below (below_box w3 (.cells #[.int .i64 x, .int .i64 y] 3)))
          have HLI := Lib.hid (two_list (Blk.new w3 3 #[.int .i64 x, .int .i64 y]))
          refine (join_any t _ [x, y] C _ HT4.out (by omega) HRT.out HLI.out (by unfold Short; simp)).mono ?_
          rintro e w4 ⟨rfl, hw4⟩
          subst hw4
          have HIN4 := Lib.hid (fun a b => inT_any t a b C _ HT4.out (by omega) HRT.out)
          have HKD4 := Lib.hid (fun a => kindT_any t a C _ HT4.out (by omega))
          clear HLI
          generalize jnT C.sts [x, y] = m at *
          generalize World.alloc w3 (.cells #[.int .i64 x, .int .i64 y] 3) = w4 at *
          by_cases hm : 0 ≤ m
          · obtain ⟨j1, j2, j3⟩ := HJ.out hm
            have J1 : Hid (cIn C.sts x m = true) := Lib.hid (j3 0 (by simp))
            have J2 : Hid (cIn C.sts y m = true) := Lib.hid (j3 1 (by simp))
            have J3 : Hid (kindT C.sts m = 2) := Lib.hid (by unfold kindT; rw [if_pos j1]; exact j2)
            clear j1 j2 j3
            go_wp2_with fail
            refine (HIN4.out _ _).mono ?_
            rintro e w5 ⟨rfl, rfl⟩
            rw [J1.out]
            go_wp2_with fail
            refine (HIN4.out _ _).mono ?_
            rintro e w5 ⟨rfl, rfl⟩
            rw [J2.out]
            go_wp2_with fail
            refine (HKD4.out _).mono ?_
            rintro e w5 ⟨rfl, rfl⟩
            rw [J3.out]
            go_wp2_with fail
            clear HIN4 HKD4 J1 J2 J3 HJ
            go_loopw [14] (fun i wr => ∃ k : Nat, k ≤ C.sts.length ∧ i = .int .i64 (k : Int) ∧ Below (w.alloc (chBox C.vars (.slice sA C.sts.length scap) (.slice tA C.trs.length tcap))).heap.size (w.alloc (chBox C.vars (.slice sA C.sts.length scap) (.slice tA C.trs.length tcap))) wr ∧ Hid (TreeAt wr t C)) (fun i _ => C.sts.length - (intOf i).toNat)
            case atStart => exact ⟨0, Nat.zero_le _, rfl, HB4.out, HT4⟩
            case round =>
              clear HB4 HT4 HB3 HT HIN HB2 HB1
              obtain ⟨k, hk, rfl, hb, hT⟩ := hrel
              obtain ⟨wo, rfl⟩ : ∃ wo : World, wo = wr := ⟨_, rfl⟩
              obtain ⟨x0, x1, x2⟩ := box_later hb
              have HBW := Lib.hid hb
              clear hb
              by_cases hlt : k < C.sts.length
              · have HBIT := Lib.hid (belowN_bit C.sts x k hlt)
                have HSM := Lib.hid (belowN_small C.sts x (by omega))
                have HPA := Lib.hid (past_any C.vars (.slice sA C.sts.length scap) (.slice tA C.trs.length tcap) C k wo (HC.out.below (below_boxed HBW.out)) (by omega) hlt)
                generalize histB (stAt C.sts (k : Int)).kind = past at *
                cases past with
                | true =>
                  go_wp2_with fail
                  refine HPA.out.mono ?_
                  rintro e w5 ⟨rfl, hb5⟩
                  have HB5 := Lib.hid (HBW.out.trans (hb5.mono HBW.out.size))
                  have HT5 := Lib.hid (hT.out.below hb5)
                  clear hb5 x0 x1 x2
                  go_wp2_with fail
                  refine (below_any t x C w5 HT5.out (by omega) HRT.out).mono ?_
                  rintro e w6 ⟨rfl, rfl⟩
                  go_wp2_with fail
                  refine (hasBit_any _ k HSM.out (by omega) _).mono ?_
                  rintro e w6 ⟨rfl, rfl⟩
                  rw [HBIT.out]
                  go_wp2_with fail
                  refine (inT_any t (k : Int) x C w5 HT5.out (by omega) HRT.out).mono ?_
                  rintro e w6 ⟨rfl, rfl⟩
                  generalize cIn C.sts (k : Int) x = b at *
                  cases b with
                  | true =>
                    go_wp2_with fail
                    go_roundw
                    case rel => exact ⟨k + 1, by omega, by go_num, HB5.out, HT5⟩
                    case measure => simp [intOf]; omega
                  | false =>
                    go_wp2_with fail
                    go_roundw
                    case rel => exact ⟨k + 1, by omega, by go_num, HB5.out, HT5⟩
                    case measure => simp [intOf]; omega
                | false =>
                  go_wp2_with fail
                  refine HPA.out.mono ?_
                  rintro e w5 ⟨rfl, hb5⟩
                  have HB5 := Lib.hid (HBW.out.trans (hb5.mono HBW.out.size))
                  have HT5 := Lib.hid (hT.out.below hb5)
                  clear hb5 x0 x1 x2
                  go_wp2_with fail
                  refine (below_any t x C w5 HT5.out (by omega) HRT.out).mono ?_
                  rintro e w6 ⟨rfl, rfl⟩
                  go_wp2_with fail
                  refine (hasBit_any _ k HSM.out (by omega) _).mono ?_
                  rintro e w6 ⟨rfl, rfl⟩
                  rw [HBIT.out]
                  go_wp2_with fail
                  refine (inT_any t (k : Int) x C w5 HT5.out (by omega) HRT.out).mono ?_
                  rintro e w6 ⟨rfl, rfl⟩
                  generalize cIn C.sts (k : Int) x = b at *
                  cases b with
                  | true =>
                    go_wp2_with fail
                    go_roundw
                    case rel => exact ⟨k + 1, by omega, by go_num, HB5.out, HT5⟩
                    case measure => simp [intOf]; omega
                  | false =>
                    go_wp2_with fail
                    go_roundw
                    case rel => exact ⟨k + 1, by omega, by go_num, HB5.out, HT5⟩
                    case measure => simp [intOf]; omega
              · obtain rfl : k = C.sts.length := by omega
                go_wp2_with fail
                go_ret
                exact ⟨rfl, below_boxed HBW.out⟩
          · have hm2 : decide (0 ≤ m) = false := by simpa using hm
            go_wp2_with fail
            clear HIN4 HKD4 HJ
            go_loopw [14] (fun i wr => ∃ k : Nat, k ≤ C.sts.length ∧ i = .int .i64 (k : Int) ∧ Below (w.alloc (chBox C.vars (.slice sA C.sts.length scap) (.slice tA C.trs.length tcap))).heap.size (w.alloc (chBox C.vars (.slice sA C.sts.length scap) (.slice tA C.trs.length tcap))) wr ∧ Hid (TreeAt wr t C)) (fun i _ => C.sts.length - (intOf i).toNat)
            case atStart => exact ⟨0, Nat.zero_le _, rfl, HB4.out, HT4⟩
            case round =>
              clear HB4 HT4 HB3 HT HIN HB2 HB1
              obtain ⟨k, hk, rfl, hb, hT⟩ := hrel
              obtain ⟨wo, rfl⟩ : ∃ wo : World, wo = wr := ⟨_, rfl⟩
              obtain ⟨x0, x1, x2⟩ := box_later hb
              have HBW := Lib.hid hb
              clear hb
              by_cases hlt : k < C.sts.length
              · have HBIT := Lib.hid (belowN_bit C.sts x k hlt)
                have HSM := Lib.hid (belowN_small C.sts x (by omega))
                have HPA := Lib.hid (past_any C.vars (.slice sA C.sts.length scap) (.slice tA C.trs.length tcap) C k wo (HC.out.below (below_boxed HBW.out)) (by omega) hlt)
                generalize histB (stAt C.sts (k : Int)).kind = past at *
                cases past with
                | true =>
                  go_wp2_with fail
                  refine HPA.out.mono ?_
                  rintro e w5 ⟨rfl, hb5⟩
                  have HB5 := Lib.hid (HBW.out.trans (hb5.mono HBW.out.size))
                  have HT5 := Lib.hid (hT.out.below hb5)
                  clear hb5 x0 x1 x2
                  go_wp2_with fail
                  refine (below_any t x C w5 HT5.out (by omega) HRT.out).mono ?_
                  rintro e w6 ⟨rfl, rfl⟩
                  go_wp2_with fail
                  refine (hasBit_any _ k HSM.out (by omega) _).mono ?_
                  rintro e w6 ⟨rfl, rfl⟩
                  rw [HBIT.out]
                  go_wp2_with fail
                  refine (inT_any t (k : Int) x C w5 HT5.out (by omega) HRT.out).mono ?_
                  rintro e w6 ⟨rfl, rfl⟩
                  generalize cIn C.sts (k : Int) x = b at *
                  cases b with
                  | true =>
                    go_wp2_with fail
                    go_roundw
                    case rel => exact ⟨k + 1, by omega, by go_num, HB5.out, HT5⟩
                    case measure => simp [intOf]; omega
                  | false =>
                    go_wp2_with fail
                    go_roundw
                    case rel => exact ⟨k + 1, by omega, by go_num, HB5.out, HT5⟩
                    case measure => simp [intOf]; omega
                | false =>
                  go_wp2_with fail
                  refine HPA.out.mono ?_
                  rintro e w5 ⟨rfl, hb5⟩
                  have HB5 := Lib.hid (HBW.out.trans (hb5.mono HBW.out.size))
                  have HT5 := Lib.hid (hT.out.below hb5)
                  clear hb5 x0 x1 x2
                  go_wp2_with fail
                  refine (below_any t x C w5 HT5.out (by omega) HRT.out).mono ?_
                  rintro e w6 ⟨rfl, rfl⟩
                  go_wp2_with fail
                  refine (hasBit_any _ k HSM.out (by omega) _).mono ?_
                  rintro e w6 ⟨rfl, rfl⟩
                  rw [HBIT.out]
                  go_wp2_with fail
                  refine (inT_any t (k : Int) x C w5 HT5.out (by omega) HRT.out).mono ?_
                  rintro e w6 ⟨rfl, rfl⟩
                  generalize cIn C.sts (k : Int) x = b at *
                  cases b with
                  | true =>
                    go_wp2_with fail
                    go_roundw
                    case rel => exact ⟨k + 1, by omega, by go_num, HB5.out, HT5⟩
                    case measure => simp [intOf]; omega
                  | false =>
                    go_wp2_with fail
                    go_roundw
                    case rel => exact ⟨k + 1, by omega, by go_num, HB5.out, HT5⟩
                    case measure => simp [intOf]; omega
              · obtain rfl : k = C.sts.length := by omega
                go_wp2_with fail
                go_ret
                exact ⟨rfl, below_boxed HBW.out⟩
    · have HOK := Lib.hid hok
      clear hok
      go_enter Tryz.func3, Tryz.ntmps3
      go_wp2_with fail
      refine (upT_any _ HL0.out).mono ?_
      rintro e w1 ⟨rfl, hb1⟩
      obtain ⟨x0, x1, x2⟩ := box_later hb1
      have HB1 := Lib.hid hb1
      clear hb1
      go_wp2_with fail
      refine (HF.out _ HB1.out).mono ?_
      rintro e w2 ⟨rfl, hb2⟩
      have hB2 := HB1.out.trans (hb2.mono HB1.out.size)
      clear x0 x1 x2
      obtain ⟨x0, x1, x2⟩ := box_later hB2
      have HB2 := Lib.hid hB2
      rw [HFF.out]
      clear hb2 hB2
      go_wp2_with fail
      refine (HCK.out _ HB2.out).mono ?_
      intro e w3 hp
      obtain ⟨hb3, hv⟩ := hp.not HOK.out
      have HB3 := Lib.hid (HB2.out.trans (hb3.mono HB2.out.size))
      clear hb3 hp x0 x1 x2
      rcases hv with ⟨p, rfl⟩ | ⟨p, rfl⟩
      · go_wp2_with fail
        go_ret
        exact ⟨rfl, below_boxed HB3.out⟩
      · go_wp2_with fail
        go_ret
        exact ⟨rfl, below_boxed HB3.out⟩
end Go.Proofs.YteepfpmeijnkbaaGreatDoor
