/- The contracts of chart's smallest functions: isFrom, isHistory, isState, above. -/
import Derived.Test.YtmbmijhfoncncaaGreatDoorCgen
namespace Go.Proofs.YtmbmijhfoncncaaGreatDoor
open Go.ChangeShapes Go.WideShapes Go.ChangeAt Go.RowKit
set_option linter.unusedVariables false

theorem isFrom_any (n a b : Int) (w : World) : Calls Tryz.prog 21 #[.int .i64 n, .int .i64 a, .int .i64 b] w fun e w' => e = .returned (.bool (fromB n a b)) ∧ w = w' := by
  by_cases h1 : a ≤ n
  · have h2 : decide (a ≤ n) = true := by simpa using h1
    go_enter Tryz.func21, Tryz.ntmps21
    go_wp2
    go_ret
    exact ⟨ret_bool (by unfold fromB; rw [h2]; rfl), rfl⟩
  · have h2 : decide (a ≤ n) = false := by simpa using h1
    go_enter Tryz.func21, Tryz.ntmps21
    go_wp2
    go_ret
    exact ⟨ret_bool (by unfold fromB; rw [h2]; rfl), rfl⟩
theorem isHist_any (k : Int) (w : World) : Calls Tryz.prog 15 #[.int .i64 k] w fun e w' => e = .returned (.bool (histB k)) ∧ w = w' := by
  by_cases h : k = 5
  · subst h
    go_enter Tryz.func15, Tryz.ntmps15
    go_wp2
    go_ret
    exact ⟨rfl, rfl⟩
  · have h2 : (k == 5) = false := by simpa using h
    go_enter Tryz.func15, Tryz.ntmps15
    go_wp2
    go_ret
    exact ⟨ret_bool (by unfold histB; simp [h]; rfl), rfl⟩
theorem isState_any (vr s : Int) (vs vt : Value) (C : Ch) (w : World) (hC : ChHas w vs vt C) (hl : Short C.sts.length) :
    Calls Tryz.prog 40 #[.agg #[.int .i64 vr, vs, vt], .int .i64 s] w fun e w' => e = .returned (.bool (isSt C.sts s)) ∧ Below w.heap.size w w' := by
  unfold Short at hl
  obtain ⟨⟨A, cap, rfl, hcap, _⟩, _⟩ := hC
  have hb : Below w.heap.size w (w.alloc (chBox vr (.slice A C.sts.length cap) vt)) := (Below.refl _ _).alloc (Nat.le_refl _) _
  have HB := Lib.hid hb
  clear hb
  by_cases h : 0 ≤ s
  · have h2 : decide (0 ≤ s) = true := by simpa using h
    go_enter Tryz.func40, Tryz.ntmps40
    go_wp2
    go_ret
    exact ⟨ret_bool (by unfold isSt; rw [h2]; rfl), HB.out⟩
  · have h2 : decide (0 ≤ s) = false := by simpa using h
    go_enter Tryz.func40, Tryz.ntmps40
    go_wp2
    go_ret
    exact ⟨ret_bool (by unfold isSt; rw [h2]; rfl), HB.out⟩
/-- the box of the chart that a call was handed, in a later world -/
theorem box_later {w w1 : World} {vr : Int} {vs vt : Value} (hb : Below (w.alloc (chBox vr vs vt)).heap.size (w.alloc (chBox vr vs vt)) w1) :
    w1.cell? ⟨w.heap.size, 0, none⟩ = some (.int .i64 vr) ∧ w1.cell? ⟨w.heap.size, 1, none⟩ = some vs ∧ w1.cell? ⟨w.heap.size, 2, none⟩ = some vt :=
  ((Blk.new w 25 #[.int .i64 vr, vs, vt]).below hb (by simp)).facts3.1
set_option maxHeartbeats 1000000 in
theorem above_any (vr s : Int) (vs vt : Value) (C : Ch) (w : World) (hC : ChHas w vs vt C) (hl : Short C.sts.length) :
    Calls Tryz.prog 49 #[.agg #[.int .i64 vr, vs, vt], .int .i64 s] w fun e w' => e = .returned (.int .i64 (cUp C.sts s)) ∧ Below w.heap.size w w' := by
  have HB := Lib.hid (below_box w (chBox vr vs vt))
  have HS := Lib.hid (isState_any vr s vs vt C _ (hC.below HB.out) hl)
  have HC := Lib.hid hC
  unfold Short at hl
  cases h : isSt C.sts s with
  | false =>
    have HI := Lib.hid h
    clear h hC
    go_enter Tryz.func49, Tryz.ntmps49
    go_wp2_with fail
    refine HS.out.mono ?_
    rintro e w1 ⟨rfl, hb1⟩
    have HB1 := Lib.hid (HB.out.trans (hb1.mono HB.out.size))
    rw [HI.out]
    clear hb1
    go_wp2
    go_ret
    exact ⟨ret_int (by unfold cUp; rw [if_neg (by rw [HI.out]; simp)]), HB1.out⟩
  | true =>
    have HI := Lib.hid h
    obtain ⟨k, rfl, hk⟩ := isSt_nat h
    obtain ⟨b, o, cap, vi, ve, vx, rfl, hcap, hlt, hst, _⟩ := hC.st hk
    have HST := Lib.hid hst
    clear h hC hst
    go_enter Tryz.func49, Tryz.ntmps49
    go_wp2_with fail
    refine HS.out.mono ?_
    rintro e w1 ⟨rfl, hb1⟩
    have HB1 := Lib.hid (HB.out.trans (hb1.mono HB.out.size))
    obtain ⟨x0, x1, x2⟩ := box_later hb1
    obtain ⟨c0, c1, c2, c3, c4⟩ := HST.out.below HB1.out hlt
    rw [HI.out]
    clear hb1
    cases hf : fromB (stAt C.sts (k : Int)).par 0 ((k : Int) - 1) with
    | true =>
      have HF := Lib.hid hf
      clear hf
      go_wp2_with (go_at_call 21; refine (isFrom_any _ _ _ _).mono ?_; rintro e w' ⟨rfl, rfl⟩; rw [HF.out])
      go_ret
      exact ⟨ret_int (by unfold cUp; rw [if_pos ⟨HI.out, HF.out⟩]), HB1.out⟩
    | false =>
      have HF := Lib.hid hf
      clear hf
      go_wp2_with (go_at_call 21; refine (isFrom_any _ _ _ _).mono ?_; rintro e w' ⟨rfl, rfl⟩; rw [HF.out])
      go_ret
      exact ⟨ret_int (by unfold cUp; rw [if_neg (by rw [HF.out]; simp)]), HB1.out⟩
end Go.Proofs.YtmbmijhfoncncaaGreatDoor
/- The contracts of chart's isIn, isStateButFirst, counted, areApart: what is in what. -/
namespace Go.Proofs.YtmbmijhfoncncaaGreatDoor
open Go.ChangeShapes Go.WideShapes Go.ChangeAt Go.RowKit
set_option linter.unusedVariables false

/-- what was there ahead of the box is kept, and the box reads as it was made -/
theorem below_boxed {w w1 : World} {o : Obj} (hb : Below (w.alloc o).heap.size (w.alloc o) w1) : Below w.heap.size w w1 := (below_box w o).trans (hb.mono (by simp))
set_option maxHeartbeats 1000000 in
theorem isIn_any (vr a b : Int) (vs vt : Value) (C : Ch) (w : World) (hC : ChHas w vs vt C) (hl : Short C.sts.length) :
    Calls Tryz.prog 39 #[.agg #[.int .i64 vr, vs, vt], .int .i64 a, .int .i64 b] w fun e w' => e = .returned (.bool (cIn C.sts a b)) ∧ Below w.heap.size w w' := by
  have HA := Lib.hid (fun (W : World) (s : Int) (h : Below (w.alloc (chBox vr vs vt)).heap.size (w.alloc (chBox vr vs vt)) W) => above_any vr s vs vt C W (hC.below (below_boxed h)) hl)
  have h0 : cIn C.sts a b = inF C.sts (a.toNat + 1) (cUp C.sts a) b := rfl
  have hge := cUp_ge C.sts a
  have hle := cUp_le C.sts a
  have hpos : (cUp C.sts a + 1).toNat ≤ a.toNat + 1 := by rcases hle with h | h <;> omega
  have HUP := Lib.hid (fun q => cUp_step C.sts q)
  generalize cIn C.sts a b = R at *
  have H0 := Lib.hid h0
  clear h0 hC hle
  go_enter Tryz.func39, Tryz.ntmps39
  go_wp2_with fail
  refine (HA.out _ a (Below.refl _ _)).mono ?_
  rintro e w1 ⟨rfl, hb1⟩
  have HB1 := Lib.hid hb1
  generalize cUp C.sts a = u at *
  clear hb1
  go_wp2_with fail
  go_loopw [7] (fun p wr => ∃ (n : Nat) (q : Int), (q + 1).toNat ≤ n ∧ p = .int .i64 q ∧ Hid (R = inF C.sts n q b) ∧ Below (w.alloc (chBox vr vs vt)).heap.size (w.alloc (chBox vr vs vt)) wr) (fun p _ => (intOf p + 1).toNat)
  case atStart => exact ⟨a.toNat + 1, u, hpos, rfl, H0, HB1.out⟩
  case round =>
    obtain ⟨n, q, hn, rfl, HR, hb⟩ := hrel
    obtain ⟨wo, rfl⟩ : ∃ wo : World, wo = wr := ⟨_, rfl⟩
    obtain ⟨x0, x1, x2⟩ := box_later hb
    have HBW := Lib.hid hb
    clear hb
    by_cases hq : q < 0
    · have hR := HR.out
      have : inF C.sts n q b = false := by
        cases n with
        | zero => rfl
        | succ n => rw [inF, if_pos hq]
      rw [this] at hR
      have HRR := Lib.hid hR
      clear hR this
      go_wp2_with fail
      go_ret
      exact ⟨ret_bool HRR.out.symm, below_boxed HBW.out⟩
    · obtain ⟨m, rfl⟩ : ∃ m, n = m + 1 := ⟨n - 1, by omega⟩
      have hR := HR.out
      rw [inF, if_neg hq] at hR
      have hq0 : 0 ≤ q := by omega
      by_cases hqb : q = b
      · rw [if_pos hqb] at hR
        have HRR := Lib.hid hR
        have hqb2 : (q == b) = true := by simpa using hqb
        have HQB := Lib.hid hqb
        clear hR hqb
        go_wp2_with fail
        go_ret
        exact ⟨ret_bool HRR.out.symm, below_boxed HBW.out⟩
      · rw [if_neg hqb] at hR
        have HRR := Lib.hid hR
        have hqb2 : (q == b) = false := by simpa using hqb
        have hst := HUP.out q hq0
        clear hR hqb
        go_wp2_with fail
        refine (HA.out _ q HBW.out).mono ?_
        rintro e w2 ⟨rfl, hb2⟩
        have HB2 := Lib.hid (HBW.out.trans (hb2.mono HBW.out.size))
        generalize cUp C.sts q = u2 at *
        clear hb2
        go_wp2
        go_roundw
        case rel => exact ⟨m, u2, by omega, rfl, HRR, HB2.out⟩
        case measure => simp [intOf]; omega
theorem notFirst_any (vr s : Int) (vs vt : Value) (C : Ch) (w : World) (hC : ChHas w vs vt C) (hl : Short C.sts.length) :
    Calls Tryz.prog 41 #[.agg #[.int .i64 vr, vs, vt], .int .i64 s] w fun e w' => e = .returned (.bool (notFirst C.sts s)) ∧ Below w.heap.size w w' := by
  have HB := Lib.hid (below_box w (chBox vr vs vt))
  have HS := Lib.hid (isState_any vr s vs vt C _ (hC.below HB.out) hl)
  clear hC
  by_cases h : s = 0
  · subst h
    go_enter Tryz.func41, Tryz.ntmps41
    go_wp2
    go_ret
    exact ⟨ret_bool (by simp [notFirst]), HB.out⟩
  · have h2 : (s != 0) = true := by simpa using h
    have HN := Lib.hid h
    clear h
    go_enter Tryz.func41, Tryz.ntmps41
    go_wp2_with fail
    refine HS.out.mono ?_
    rintro e w1 ⟨rfl, hb1⟩
    have HB1 := Lib.hid (below_boxed hb1)
    clear hb1
    go_wp2
    go_ret
    exact ⟨ret_bool (by simp [notFirst, HN.out]), HB1.out⟩
set_option maxHeartbeats 1000000 in
theorem counted_any (vr s : Int) (vs vt : Value) (C : Ch) (w : World) (hC : ChHas w vs vt C) (hl : Short C.sts.length) (hs : isSt C.sts s = true) :
    Calls Tryz.prog 43 #[.agg #[.int .i64 vr, vs, vt], .int .i64 s] w fun e w' => e = .returned (.int .i64 (cCnt C.sts s)) ∧ Below w.heap.size w w' := by
  have HB := Lib.hid (below_box w (chBox vr vs vt))
  unfold Short at hl
  obtain ⟨k, rfl, hk⟩ := isSt_nat hs
  obtain ⟨b, o, cap, vi, ve, vx, rfl, hcap, hlt, hst, _⟩ := hC.st hk
  obtain ⟨c0, c1, c2, c3, c4⟩ := hst
  cases hf : histB (stAt C.sts (k : Int)).kind with
  | true =>
    have HF := Lib.hid hf
    clear hf hC hs
    go_enter Tryz.func43, Tryz.ntmps43
    go_wp2_with (go_at_call 15; refine (isHist_any _ _).mono ?_; rintro e w' ⟨rfl, rfl⟩; rw [HF.out])
    go_ret
    exact ⟨ret_int (by unfold cCnt; rw [if_pos HF.out]), HB.out⟩
  | false =>
    have HF := Lib.hid hf
    clear hf hC hs
    go_enter Tryz.func43, Tryz.ntmps43
    go_wp2_with (go_at_call 15; refine (isHist_any _ _).mono ?_; rintro e w' ⟨rfl, rfl⟩; rw [HF.out])
    go_ret
    exact ⟨ret_int (by unfold cCnt; rw [if_neg (by rw [HF.out]; simp)]), HB.out⟩
end Go.Proofs.YtmbmijhfoncncaaGreatDoor
/- The contract of chart's areApart: whether two states can be active at once. -/
namespace Go.Proofs.YtmbmijhfoncncaaGreatDoor
open Go.ChangeShapes Go.WideShapes Go.ChangeAt Go.RowKit
set_option linter.unusedVariables false

theorem apart_no {S : List St} {a b : Int} (h : a = b ∨ cIn S a b = true ∨ cIn S b a = true) : apart S a b = false := by unfold apart; rw [if_pos h]
theorem apart_up {S : List St} {a b : Int} (h1 : ¬ a = b) (h2 : cIn S a b = false) (h3 : cIn S b a = false) : apart S a b = apF S (a.toNat + 1) (cUp S a) b := by
  unfold apart; rw [if_neg (by rw [h2, h3]; simp [h1])]
theorem isSt_in {S : List St} {b q : Int} (h : cIn S b q = true) : isSt S q = true := by
  obtain ⟨h1, h2, h3⟩ := cIn_range h
  unfold isSt at h3 ⊢
  simp only [Bool.and_eq_true, decide_eq_true_eq] at h3 ⊢
  omega
set_option maxHeartbeats 2000000 in
theorem apart_any (vr a b : Int) (vs vt : Value) (C : Ch) (w : World) (hC : ChHas w vs vt C) (hl : Short C.sts.length) :
    Calls Tryz.prog 42 #[.agg #[.int .i64 vr, vs, vt], .int .i64 a, .int .i64 b] w fun e w' => e = .returned (.bool (apart C.sts a b)) ∧ Below w.heap.size w w' := by
  have HB := Lib.hid (below_box w (chBox vr vs vt))
  have HA := Lib.hid (fun (W : World) (s : Int) (h : Below (w.alloc (chBox vr vs vt)).heap.size (w.alloc (chBox vr vs vt)) W) => above_any vr s vs vt C W (hC.below (below_boxed h)) hl)
  have HI := Lib.hid (fun (W : World) (s t : Int) (h : Below (w.alloc (chBox vr vs vt)).heap.size (w.alloc (chBox vr vs vt)) W) => isIn_any vr s t vs vt C W (hC.below (below_boxed h)) hl)
  have HC := Lib.hid hC
  unfold Short at hl
  clear hC
  by_cases hab : a = b
  · have HR := Lib.hid (apart_no (S := C.sts) (.inl hab))
    have hab2 : (a == b) = true := by simpa using hab
    clear hab
    go_enter Tryz.func42, Tryz.ntmps42
    go_wp2_with fail
    go_ret
    exact ⟨ret_bool HR.out.symm, HB.out⟩
  · have hab2 : (a == b) = false := by simpa using hab
    cases h1 : cIn C.sts a b with
    | true =>
      have HR := Lib.hid (apart_no (S := C.sts) (.inr (.inl h1)))
      have H1 := Lib.hid h1
      clear hab h1
      go_enter Tryz.func42, Tryz.ntmps42
      go_wp2_with fail
      refine (HI.out _ a b (Below.refl _ _)).mono ?_
      rintro e w1 ⟨rfl, hb1⟩
      have HB1 := Lib.hid hb1
      rw [H1.out]
      clear hb1
      go_wp2_with fail
      go_ret
      exact ⟨ret_bool HR.out.symm, below_boxed HB1.out⟩
    | false =>
      cases h2 : cIn C.sts b a with
      | true =>
        have HR := Lib.hid (apart_no (S := C.sts) (.inr (.inr h2)))
        have H1 := Lib.hid h1
        have H2 := Lib.hid h2
        clear hab h1 h2
        go_enter Tryz.func42, Tryz.ntmps42
        go_wp2_with fail
        refine (HI.out _ a b (Below.refl _ _)).mono ?_
        rintro e w1 ⟨rfl, hb1⟩
        have HB1 := Lib.hid hb1
        rw [H1.out]
        obtain ⟨x0, x1, x2⟩ := box_later hb1
        clear hb1
        go_wp2_with fail
        refine (HI.out _ b a HB1.out).mono ?_
        rintro e w2 ⟨rfl, hb2⟩
        have HB2 := Lib.hid (HB1.out.trans (hb2.mono HB1.out.size))
        rw [H2.out]
        clear hb2
        go_wp2_with fail
        go_ret
        exact ⟨ret_bool HR.out.symm, below_boxed HB2.out⟩
      | false =>
        have h0 := apart_up hab h1 h2
        have hpos : (cUp C.sts a + 1).toNat ≤ a.toNat + 1 := by rcases cUp_le C.sts a with h | h <;> omega
        have HUP := Lib.hid (fun q => cUp_step C.sts q)
        generalize apart C.sts a b = R at *
        have H0 := Lib.hid h0
        have H1 := Lib.hid h1
        have H2 := Lib.hid h2
        clear h0 h1 h2 hab
        go_enter Tryz.func42, Tryz.ntmps42
        go_wp2_with fail
        refine (HI.out _ a b (Below.refl _ _)).mono ?_
        rintro e w1 ⟨rfl, hb1⟩
        have HB1 := Lib.hid hb1
        rw [H1.out]
        obtain ⟨x0, x1, x2⟩ := box_later hb1
        clear hb1
        go_wp2_with fail
        refine (HI.out _ b a HB1.out).mono ?_
        rintro e w2 ⟨rfl, hb2⟩
        have hB2 := HB1.out.trans (hb2.mono HB1.out.size)
        rw [H2.out]
        clear hb2 x0 x1 x2
        obtain ⟨x0, x1, x2⟩ := box_later hB2
        have HB2 := Lib.hid hB2
        clear hB2
        go_wp2_with fail
        refine (HA.out _ a HB2.out).mono ?_
        rintro e w3 ⟨rfl, hb3⟩
        have HB3 := Lib.hid (HB2.out.trans (hb3.mono HB2.out.size))
        generalize cUp C.sts a = u at *
        clear hb3 x0 x1 x2
        go_wp2_with fail
        go_loopw [7] (fun p wr => ∃ (n : Nat) (q : Int), (q + 1).toNat ≤ n ∧ p = .int .i64 q ∧ Hid (R = apF C.sts n q b) ∧ Below (w.alloc (chBox vr vs vt)).heap.size (w.alloc (chBox vr vs vt)) wr) (fun p _ => (intOf p + 1).toNat)
        case atStart => exact ⟨a.toNat + 1, u, hpos, rfl, H0, HB3.out⟩
        case round =>
          obtain ⟨n, q, hn, rfl, HR, hb⟩ := hrel
          obtain ⟨wo, rfl⟩ : ∃ wo : World, wo = wr := ⟨_, rfl⟩
          obtain ⟨x0, x1, x2⟩ := box_later hb
          have HBW := Lib.hid hb
          clear hb
          by_cases hq : q < 0
          · have hR := HR.out
            have : apF C.sts n q b = false := by
              cases n with
              | zero => rfl
              | succ n => rw [apF, if_pos hq]
            rw [this] at hR
            have HRR := Lib.hid hR
            clear hR this
            go_wp2_with fail
            go_ret
            exact ⟨ret_bool HRR.out.symm, below_boxed HBW.out⟩
          · obtain ⟨m, rfl⟩ : ∃ m, n = m + 1 := ⟨n - 1, by omega⟩
            have hR := HR.out
            rw [apF, if_neg hq] at hR
            have hq0 : 0 ≤ q := by omega
            cases hi : cIn C.sts b q with
            | true =>
              rw [if_pos hi] at hR
              obtain ⟨k, rfl, hk⟩ := isSt_nat (isSt_in hi)
              obtain ⟨B, o, cap, vi, ve, vx, rfl, hcap, hlt, hst, _⟩ := HC.out.st hk
              have HST := Lib.hid hst
              have HRR := Lib.hid hR
              have HII := Lib.hid hi
              clear hR hi hst
              go_wp2_with fail
              refine (HI.out _ b _ HBW.out).mono ?_
              rintro e w4 ⟨rfl, hb4⟩
              have hB4 := HBW.out.trans (hb4.mono HBW.out.size)
              rw [HII.out]
              clear hb4 x0 x1 x2
              obtain ⟨x0, x1, x2⟩ := box_later hB4
              obtain ⟨c0, c1, c2, c3, c4⟩ := HST.out.below (below_boxed hB4) hlt
              have HB4 := Lib.hid hB4
              clear hB4
              go_wp2_with fail
              go_ret
              exact ⟨ret_bool HRR.out.symm, below_boxed HB4.out⟩
            | false =>
              rw [if_neg (by rw [hi]; simp)] at hR
              have HRR := Lib.hid hR
              have HII := Lib.hid hi
              have hst := HUP.out q hq0
              clear hR hi
              go_wp2_with fail
              refine (HI.out _ b _ HBW.out).mono ?_
              rintro e w4 ⟨rfl, hb4⟩
              have hB4 := HBW.out.trans (hb4.mono HBW.out.size)
              rw [HII.out]
              clear hb4 x0 x1 x2
              obtain ⟨x0, x1, x2⟩ := box_later hB4
              have HB4 := Lib.hid hB4
              clear hB4
              go_wp2_with fail
              refine (HA.out _ q HB4.out).mono ?_
              rintro e w5 ⟨rfl, hb5⟩
              have HB5 := Lib.hid (HB4.out.trans (hb5.mono HB4.out.size))
              generalize cUp C.sts q = u2 at *
              clear hb5
              go_wp2
              go_roundw
              case rel => exact ⟨m, u2, by omega, rfl, HRR, HB5.out⟩
              case measure => simp [intOf]; omega
end Go.Proofs.YtmbmijhfoncncaaGreatDoor
