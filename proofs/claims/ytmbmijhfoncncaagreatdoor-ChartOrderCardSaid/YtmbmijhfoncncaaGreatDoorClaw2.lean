/- The walk of the law ChartOrder: true for any chart. -/
import Derived.Test.YtmbmijhfoncncaaGreatDoorCup
import Derived.Test.YtmbmijhfoncncaaGreatDoorCref
namespace Go.Proofs.YtmbmijhfoncncaaGreatDoor
open Go.ChangeShapes Go.WideShapes Go.ChangeAt Go.RowKit
set_option linter.unusedVariables false

/-- what Check tells, as a value: nil, or not -/
theorem CPost.not {a : CA} {w w' : World} {e : Ending} (h : CPost a w e w') (ha : a ≠ .ok) : Below w.heap.size w w' ∧ ∃ v, e = .returned v ∧ ((∃ p, v = .iface 39 p) ∨ ∃ p, v = .iface 46 p) := by
  obtain ⟨hb, h⟩ := h
  cases a with
  | ok => exact absurd rfl ha
  | large => exact ⟨hb, _, h, .inl ⟨_, rfl⟩⟩
  | spot k c => obtain ⟨g, he, _⟩ := h; exact ⟨hb, _, he, .inr ⟨_, rfl⟩⟩
theorem order_first {C : Ch} (h : chk hasTB C = .ok) (k : Nat) (hk : k < C.sts.length) : cIn C.sts (k : Int) 0 = decide (0 < k) := by
  rw [in_first_iff h (k : Int) (by omega) (by omega)]
  simp
theorem order_no {C : Ch} (h : chk hasTB C = .ok) (k m y : Nat) (hm : m < C.sts.length) (h1 : k < y) (h2 : y < m) (hy : cIn C.sts (y : Int) (k : Int) = false) (hi : cIn C.sts (m : Int) (k : Int) = true) : False := by
  have := in_between h (k : Int) (y : Int) (by omega) _ (m : Int) (Nat.le_refl _) (by omega) (by omega) hi
  rw [hy] at this
  cases this
set_option maxHeartbeats 4000000 in
set_option maxRecDepth 100000 in
theorem law2_any (vs vt : Value) (C : Ch) (w : World) (hL : Laid w) (hC : ChHas w vs vt C) (hS : ShortCh C) :
    Calls Tryz.prog 4 #[.agg #[.int .i64 C.vars, vs, vt]] w fun e w' => e = .returned (.bool true) ∧ Below w.heap.size w w' := by
  have HL0 := Lib.hid (hL.after (below_box w (chBox C.vars vs vt)))
  have HF := Lib.hid (fun (W : World) (h : Below (w.alloc (chBox C.vars vs vt)).heap.size (w.alloc (chBox C.vars vs vt)) W) => few_any C.vars vs vt C W (hC.below (below_boxed h)) hS)
  have HC := Lib.hid hC
  have HS := Lib.hid hS
  have HCH := Lib.hid (fun (W : World) (hF : fewB C = true) (h : Below (w.alloc (chBox C.vars vs vt)).heap.size (w.alloc (chBox C.vars vs vt)) W) => chk_any vs vt C W (hL.after (below_boxed h)) (hC.below (below_boxed h)) hF)
  have HIN := Lib.hid (fun (W : World) (m : Nat) (b : Int) (h : Below (w.alloc (chBox C.vars vs vt)).heap.size (w.alloc (chBox C.vars vs vt)) W) => rIn_any C.vars b vs vt C hS.sts m (m : Int) W (by omega) (hC.below (below_boxed h)))
  have hnn := neq_nil_nil
  have hnc := fun p W => neq_code_any p W
  have hns := fun p W => neq_spot_any p W
  clear hL hC hS
  cases hf : fewB C with
  | false =>
    have HFF := Lib.hid hf
    clear hf
    go_enter Tryz.func4, Tryz.ntmps4
    go_wp2_with fail
    refine (up_any _ HL0.out).mono ?_
    rintro e w1 ⟨rfl, hb1⟩
    obtain ⟨x0, x1, x2⟩ := box_later hb1
    have HB1 := Lib.hid hb1
    clear hb1
    go_wp2_with fail
    refine (HF.out _ HB1.out).mono ?_
    rintro e w2 ⟨rfl, hb2⟩
    have HB2 := Lib.hid (HB1.out.trans (hb2.mono HB1.out.size))
    rw [HFF.out]
    clear hb2
    go_wp2_with fail
    go_ret
    exact ⟨rfl, below_boxed HB2.out⟩
  | true =>
    have HCK := Lib.hid (fun W => HCH.out W hf)
    have hl : C.sts.length ≤ 1000 := by have := (few_parts hf).1; omega
    have HFF := Lib.hid hf
    clear hf HCH
    by_cases hok : chk hasTB C = .ok
    · have HO1 := Lib.hid (order_first hok)
      have HO2 := Lib.hid (order_no hok)
      rw [hok] at HCK
      clear hok
      obtain ⟨A, cap, hvs, hcap⟩ := RowsAt.slice HC.out.1
      subst hvs
      go_enter Tryz.func4, Tryz.ntmps4
      go_wp2_with fail
      refine (up_any _ HL0.out).mono ?_
      rintro e w1 ⟨rfl, hb1⟩
      obtain ⟨x0, x1, x2⟩ := box_later hb1
      have HB1 := Lib.hid hb1
      clear hb1
      go_wp2_with fail
      refine (HF.out _ HB1.out).mono ?_
      rintro e w2 ⟨rfl, hb2⟩
      have hB2 := HB1.out.trans (hb2.mono HB1.out.size)
      clear x0 x1 x2
      obtain ⟨x0, x1, x2⟩ := box_later hB2
      have HB2 := Lib.hid hB2
      rw [HFF.out]
      clear hb2 hB2
      go_wp2_with fail
      refine (HCK.out _ HB2.out).mono ?_
      rintro e w3 ⟨hb3, he⟩
      have he' : e = .returned .nilIface := he
      subst he'
      have HB3 := Lib.hid (HB2.out.trans (hb3.mono HB2.out.size))
      clear hb3 he x0 x1 x2
      go_wp2_with fail
      go_loopw [5] (fun i wr => ∃ k : Nat, k ≤ C.sts.length ∧ i = .int .i64 (k : Int) ∧ Below (w.alloc (chBox C.vars (.slice A C.sts.length cap) vt)).heap.size (w.alloc (chBox C.vars (.slice A C.sts.length cap) vt)) wr) (fun i _ => C.sts.length - (intOf i).toNat)
      case atStart => exact ⟨0, Nat.zero_le _, rfl, HB3.out⟩
      case round =>
        obtain ⟨k, hk, rfl, hb⟩ := hrel
        obtain ⟨wo, rfl⟩ : ∃ wo : World, wo = wr := ⟨_, rfl⟩
        obtain ⟨x0, x1, x2⟩ := box_later hb
        by_cases hlt : k < C.sts.length
        · have HBW := Lib.hid hb
          have HFK := Lib.hid (HO1.out k hlt)
          clear hb
          by_cases hk0 : 0 < k
          · have hk1 : decide ((0 : Int) < (k : Int)) = true := by simpa using hk0
            have hk2 : decide (0 < k) = true := by simpa using hk0
            go_wp2_with fail
            refine (HIN.out _ k 0 HBW.out).mono ?_
            rintro e w4 ⟨rfl, hb4⟩
            have hB4 := HBW.out.trans (hb4.mono HBW.out.size)
            clear x0 x1 x2
            obtain ⟨x0, x1, x2⟩ := box_later hB4
            have HB4 := Lib.hid hB4
            rw [HFK.out, hk2]
            clear hb4 hB4
            go_wp2_with fail
            go_loopw [7, 8] (fun v i wr => ∃ (m : Nat) (ov : Bool), k + 1 ≤ m ∧ m ≤ C.sts.length ∧ i = .int .i64 (m : Int) ∧ v = .bool ov ∧ Hid (ov = true → ∃ y : Nat, k < y ∧ y < m ∧ cIn C.sts (y : Int) (k : Int) = false) ∧ Below (w.alloc (chBox C.vars (.slice A C.sts.length cap) vt)).heap.size (w.alloc (chBox C.vars (.slice A C.sts.length cap) vt)) wr) (fun _ i _ => C.sts.length - (intOf i).toNat)
            case atStart => exact ⟨k + 1, false, Nat.le_refl _, by omega, by go_num, rfl, Lib.hid (fun h => by cases h), HB4.out⟩
            case round =>
              obtain ⟨m, ov, hm1, hm2, rfl, rfl, HOV, hb⟩ := hrel
              obtain ⟨wo2, rfl⟩ : ∃ wo2 : World, wo2 = wr := ⟨_, rfl⟩
              clear x0 x1 x2
              obtain ⟨x0, x1, x2⟩ := box_later hb
              have HBW2 := Lib.hid hb
              clear hb
              by_cases hml : m < C.sts.length
              · cases hi : cIn C.sts (m : Int) (k : Int) with
                | true =>
                  cases ov with
                  | true =>
                    obtain ⟨y, y1, y2, y3⟩ := HOV.out rfl
                    exact absurd (HO2.out k m y hml y1 y2 y3 hi) id
                  | false =>
                    have HI := Lib.hid hi
                    clear hi
                    go_wp2_with fail
                    refine (HIN.out _ m (k : Int) HBW2.out).mono ?_
                    rintro e w5 ⟨rfl, hb5⟩
                    have HB5 := Lib.hid (HBW2.out.trans (hb5.mono HBW2.out.size))
                    rw [HI.out]
                    clear hb5
                    go_wp2
                    go_roundw
                    case rel => exact ⟨m + 1, false, by omega, by omega, by go_num, rfl, Lib.hid (fun h => by cases h), HB5.out⟩
                    case measure => simp [intOf]; omega
                | false =>
                  have HI := Lib.hid hi
                  have HW : Hid (∃ y : Nat, k < y ∧ y < m + 1 ∧ cIn C.sts (y : Int) (k : Int) = false) := Lib.hid ⟨m, by omega, by omega, hi⟩
                  clear hi
                  cases ov with
                  | true =>
                    go_wp2_with fail
                    refine (HIN.out _ m (k : Int) HBW2.out).mono ?_
                    rintro e w5 ⟨rfl, hb5⟩
                    have HB5 := Lib.hid (HBW2.out.trans (hb5.mono HBW2.out.size))
                    rw [HI.out]
                    clear hb5
                    go_wp2
                    go_roundw
                    case rel => exact ⟨m + 1, true, by omega, by omega, by go_num, rfl, Lib.hid (fun _ => HW.out), HB5.out⟩
                    case measure => simp [intOf]; omega
                  | false =>
                    go_wp2_with fail
                    refine (HIN.out _ m (k : Int) HBW2.out).mono ?_
                    rintro e w5 ⟨rfl, hb5⟩
                    have HB5 := Lib.hid (HBW2.out.trans (hb5.mono HBW2.out.size))
                    rw [HI.out]
                    clear hb5
                    go_wp2
                    go_roundw
                    case rel => exact ⟨m + 1, true, by omega, by omega, by go_num, rfl, Lib.hid (fun _ => HW.out), HB5.out⟩
                    case measure => simp [intOf]; omega
              · obtain rfl : m = C.sts.length := by omega
                clear HOV
                go_wp2
                go_roundw
                case rel => exact ⟨k + 1, by omega, by go_num, HBW2.out⟩
                case measure => simp [intOf]; omega
          · have hk1 : decide ((0 : Int) < (k : Int)) = false := by simpa using hk0
            have hk2 : decide (0 < k) = false := by simpa using hk0
            go_wp2_with fail
            refine (HIN.out _ k 0 HBW.out).mono ?_
            rintro e w4 ⟨rfl, hb4⟩
            have hB4 := HBW.out.trans (hb4.mono HBW.out.size)
            clear x0 x1 x2
            obtain ⟨x0, x1, x2⟩ := box_later hB4
            have HB4 := Lib.hid hB4
            rw [HFK.out, hk2]
            clear hb4 hB4
            go_wp2_with fail
            go_loopw [7, 8] (fun v i wr => ∃ (m : Nat) (ov : Bool), k + 1 ≤ m ∧ m ≤ C.sts.length ∧ i = .int .i64 (m : Int) ∧ v = .bool ov ∧ Hid (ov = true → ∃ y : Nat, k < y ∧ y < m ∧ cIn C.sts (y : Int) (k : Int) = false) ∧ Below (w.alloc (chBox C.vars (.slice A C.sts.length cap) vt)).heap.size (w.alloc (chBox C.vars (.slice A C.sts.length cap) vt)) wr) (fun _ i _ => C.sts.length - (intOf i).toNat)
            case atStart => exact ⟨k + 1, false, Nat.le_refl _, by omega, by go_num, rfl, Lib.hid (fun h => by cases h), HB4.out⟩
            case round =>
              obtain ⟨m, ov, hm1, hm2, rfl, rfl, HOV, hb⟩ := hrel
              obtain ⟨wo2, rfl⟩ : ∃ wo2 : World, wo2 = wr := ⟨_, rfl⟩
              clear x0 x1 x2
              obtain ⟨x0, x1, x2⟩ := box_later hb
              have HBW2 := Lib.hid hb
              clear hb
              by_cases hml : m < C.sts.length
              · cases hi : cIn C.sts (m : Int) (k : Int) with
                | true =>
                  cases ov with
                  | true =>
                    obtain ⟨y, y1, y2, y3⟩ := HOV.out rfl
                    exact absurd (HO2.out k m y hml y1 y2 y3 hi) id
                  | false =>
                    have HI := Lib.hid hi
                    clear hi
                    go_wp2_with fail
                    refine (HIN.out _ m (k : Int) HBW2.out).mono ?_
                    rintro e w5 ⟨rfl, hb5⟩
                    have HB5 := Lib.hid (HBW2.out.trans (hb5.mono HBW2.out.size))
                    rw [HI.out]
                    clear hb5
                    go_wp2
                    go_roundw
                    case rel => exact ⟨m + 1, false, by omega, by omega, by go_num, rfl, Lib.hid (fun h => by cases h), HB5.out⟩
                    case measure => simp [intOf]; omega
                | false =>
                  have HI := Lib.hid hi
                  have HW : Hid (∃ y : Nat, k < y ∧ y < m + 1 ∧ cIn C.sts (y : Int) (k : Int) = false) := Lib.hid ⟨m, by omega, by omega, hi⟩
                  clear hi
                  cases ov with
                  | true =>
                    go_wp2_with fail
                    refine (HIN.out _ m (k : Int) HBW2.out).mono ?_
                    rintro e w5 ⟨rfl, hb5⟩
                    have HB5 := Lib.hid (HBW2.out.trans (hb5.mono HBW2.out.size))
                    rw [HI.out]
                    clear hb5
                    go_wp2
                    go_roundw
                    case rel => exact ⟨m + 1, true, by omega, by omega, by go_num, rfl, Lib.hid (fun _ => HW.out), HB5.out⟩
                    case measure => simp [intOf]; omega
                  | false =>
                    go_wp2_with fail
                    refine (HIN.out _ m (k : Int) HBW2.out).mono ?_
                    rintro e w5 ⟨rfl, hb5⟩
                    have HB5 := Lib.hid (HBW2.out.trans (hb5.mono HBW2.out.size))
                    rw [HI.out]
                    clear hb5
                    go_wp2
                    go_roundw
                    case rel => exact ⟨m + 1, true, by omega, by omega, by go_num, rfl, Lib.hid (fun _ => HW.out), HB5.out⟩
                    case measure => simp [intOf]; omega
              · obtain rfl : m = C.sts.length := by omega
                clear HOV
                go_wp2
                go_roundw
                case rel => exact ⟨k + 1, by omega, by go_num, HBW2.out⟩
                case measure => simp [intOf]; omega
        · obtain rfl : k = C.sts.length := by omega
          go_wp2_with fail
          go_ret
          exact ⟨rfl, below_boxed hb⟩
    · have HOK := Lib.hid hok
      clear hok
      go_enter Tryz.func4, Tryz.ntmps4
      go_wp2_with fail
      refine (up_any _ HL0.out).mono ?_
      rintro e w1 ⟨rfl, hb1⟩
      obtain ⟨x0, x1, x2⟩ := box_later hb1
      have HB1 := Lib.hid hb1
      clear hb1
      go_wp2_with fail
      refine (HF.out _ HB1.out).mono ?_
      rintro e w2 ⟨rfl, hb2⟩
      have hB2 := HB1.out.trans (hb2.mono HB1.out.size)
      clear x0 x1 x2
      obtain ⟨x0, x1, x2⟩ := box_later hB2
      have HB2 := Lib.hid hB2
      rw [HFF.out]
      clear hb2 hB2
      go_wp2_with fail
      refine (HCK.out _ HB2.out).mono ?_
      intro e w3 hp
      obtain ⟨hb3, v, rfl, hv⟩ := hp.not HOK.out
      have HB3 := Lib.hid (HB2.out.trans (hb3.mono HB2.out.size))
      clear hb3 hp
      rcases hv with ⟨p, rfl⟩ | ⟨p, rfl⟩
      · go_wp2_with fail
        go_ret
        exact ⟨rfl, below_boxed HB3.out⟩
      · go_wp2_with fail
        go_ret
        exact ⟨rfl, below_boxed HB3.out⟩
end Go.Proofs.YtmbmijhfoncncaaGreatDoor
