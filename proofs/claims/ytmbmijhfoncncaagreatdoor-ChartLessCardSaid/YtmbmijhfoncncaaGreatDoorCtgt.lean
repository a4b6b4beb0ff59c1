/- The contracts of chart's sourceMayBe, eventMayBe, targetsMayBe. -/
import Derived.Test.YtmbmijhfoncncaaGreatDoorCs
import Derived.Deep.RegionHeld3
namespace Go.Proofs.YtmbmijhfoncncaaGreatDoor
open Go.ChangeShapes Go.WideShapes Go.ChangeAt Go.RowKit
set_option linter.unusedVariables false

theorem isSt_of_notFirst {S : List St} {s : Int} (h : notFirst S s = true) : isSt S s = true := by
  unfold notFirst at h
  rw [Bool.and_eq_true] at h
  exact h.2
set_option maxHeartbeats 1000000 in
theorem src_any (vr s : Int) (vs vt : Value) (C : Ch) (w : World) (hC : ChHas w vs vt C) (hl : Short C.sts.length) :
    Calls Tryz.prog 28 #[.agg #[.int .i64 vr, vs, vt], .int .i64 s] w fun e w' => e = .returned (.bool (srcB C.sts s)) ∧ Below w.heap.size w w' := by
  have HB := Lib.hid (below_box w (chBox vr vs vt))
  have HS := Lib.hid (notFirst_any vr s vs vt C _ (hC.below HB.out) hl)
  have HC := Lib.hid hC
  unfold Short at hl
  cases h : notFirst C.sts s with
  | false =>
    have HI := Lib.hid h
    clear h hC
    go_enter Tryz.func28, Tryz.ntmps28
    go_wp2_with fail
    refine HS.out.mono ?_
    rintro e w1 ⟨rfl, hb1⟩
    have HB1 := Lib.hid (below_boxed hb1)
    rw [HI.out]
    clear hb1
    go_wp2_with fail
    go_ret
    exact ⟨ret_bool (by unfold srcB; rw [HI.out]; rfl), HB1.out⟩
  | true =>
    have HI := Lib.hid h
    obtain ⟨k, rfl, hk⟩ := isSt_nat (isSt_of_notFirst h)
    obtain ⟨b, o, cap, vi, ve, vx, rfl, hcap, hlt, hst, _⟩ := hC.st hk
    have HST := Lib.hid hst
    clear h hC hst
    go_enter Tryz.func28, Tryz.ntmps28
    go_wp2_with fail
    refine HS.out.mono ?_
    rintro e w1 ⟨rfl, hb1⟩
    have HB1 := Lib.hid (below_boxed hb1)
    obtain ⟨x0, x1, x2⟩ := box_later hb1
    obtain ⟨c0, c1, c2, c3, c4⟩ := HST.out.below HB1.out hlt
    rw [HI.out]
    clear hb1
    go_wp2_with fail
    refine (isFrom_any _ _ _ _).mono ?_
    rintro e w' ⟨rfl, rfl⟩
    go_wp2_with fail
    go_ret
    exact ⟨ret_bool (by unfold srcB; rw [HI.out]; rfl), HB1.out⟩
set_option maxHeartbeats 1000000 in
theorem ev_any (vr e : Int) (vs vt : Value) (C : Ch) (w : World) (hC : ChHas w vs vt C) (hl : C.sts.length ≤ 1000) :
    Calls Tryz.prog 29 #[.agg #[.int .i64 vr, vs, vt], .int .i64 e] w fun r w' => r = .returned (.bool (evB C.sts e)) ∧ Below w.heap.size w w' := by
  have HB := Lib.hid (below_box w (chBox vr vs vt))
  obtain ⟨A, cap, rfl, hcap⟩ := RowsAt.slice hC.1
  clear hC
  have hR : evB C.sts e = evB C.sts e := rfl
  conv at hR => rhs; unfold evB
  generalize evB C.sts e = R at *
  have HR := Lib.hid hR
  clear hR
  cases h1 : fromB e 0 1000 with
  | true =>
    have H1 := Lib.hid h1
    clear h1
    go_enter Tryz.func29, Tryz.ntmps29
    go_wp2_with fail
    refine (isFrom_any _ _ _ _).mono ?_
    rintro e w' ⟨rfl, rfl⟩
    rw [H1.out]
    go_wp2_with fail
    go_ret
    exact ⟨ret_bool (by rw [HR.out, H1.out]; simp), HB.out⟩
  | false =>
    have H1 := Lib.hid h1
    clear h1
    by_cases h2 : e = 1001
    · have h22 : (e == 1001) = true := by simpa using h2
      have H2 := Lib.hid h2
      clear h2
      go_enter Tryz.func29, Tryz.ntmps29
      go_wp2_with fail
      refine (isFrom_any _ _ _ _).mono ?_
      rintro e w' ⟨rfl, rfl⟩
      rw [H1.out]
      go_wp2_with fail
      go_ret
      exact ⟨ret_bool (by rw [HR.out]; simp [H2.out]), HB.out⟩
    · have h22 : (e == 1001) = false := by simpa using h2
      have H2 := Lib.hid h2
      clear h2
      by_cases h3 : e = 1002
      · have h33 : (e == 1002) = true := by simpa using h3
        have H3 := Lib.hid h3
        clear h3
        go_enter Tryz.func29, Tryz.ntmps29
        go_wp2_with fail
        refine (isFrom_any _ _ _ _).mono ?_
        rintro e w' ⟨rfl, rfl⟩
        rw [H1.out]
        go_wp2_with fail
        go_ret
        exact ⟨ret_bool (by rw [HR.out]; simp [H3.out]), HB.out⟩
      · have h33 : (e == 1002) = false := by simpa using h3
        have H3 := Lib.hid h3
        clear h3
        go_enter Tryz.func29, Tryz.ntmps29
        go_wp2_with fail
        refine (isFrom_any _ _ _ _).mono ?_
        rintro e w' ⟨rfl, rfl⟩
        rw [H1.out]
        go_wp2_with fail
        refine (isFrom_any _ _ _ _).mono ?_
        rintro e w' ⟨rfl, rfl⟩
        go_wp2_with fail
        go_ret
        exact ⟨ret_bool (by rw [HR.out, H1.out]; simp [H2.out, H3.out]), HB.out⟩
theorem tgts_long {S : List St} {l : List Int} (h : 3 < l.length) : tgtsB S l = false := by unfold tgtsB; rw [show decide (l.length ≤ 3) = false by simp; omega]; rfl
theorem tgts_first {S : List St} {l : List Int} (i : Nat) (hi : i < l.length) (h : notFirst S (l.getD i 0) = false) : tgtsB S l = false := by unfold tgtsB; rw [allU_false i hi h]; simp
theorem tgts_pair {S : List St} {l : List Int} (i k : Nat) (hi : i < l.length) (hk : k < i) (h : apart S (cCnt S (l.getD i 0)) (cCnt S (l.getD k 0)) = false) : tgtsB S l = false := by
  unfold tgtsB; rw [allU_false (f := pairB S l) i hi (by unfold pairB; exact allU_false k hk h)]; simp
theorem tgts_all {S : List St} {l : List Int} (h3 : l.length ≤ 3) (h1 : ∀ i, i < l.length → notFirst S (l.getD i 0) = true) (h2 : ∀ i, i < l.length → pairB S l i = true) : tgtsB S l = true := by
  unfold tgtsB; rw [allU_true h1, allU_true h2]; simp [h3]
theorem sx_keep {g : Nat} {vr : Int} {vs vt : Value} {W0 w w' : World} (hg : g < W0.heap.size)
    (h : w.cell? ⟨g, 0, none⟩ = some (.int .i64 vr) ∧ w.cell? ⟨g, 1, none⟩ = some vs ∧ w.cell? ⟨g, 2, none⟩ = some vt ∧ Below W0.heap.size W0 w) (hb : Below w.heap.size w w') :
    w'.cell? ⟨g, 0, none⟩ = some (.int .i64 vr) ∧ w'.cell? ⟨g, 1, none⟩ = some vs ∧ w'.cell? ⟨g, 2, none⟩ = some vt ∧ Below W0.heap.size W0 w' := by
  obtain ⟨h0, h1, h2, h3⟩ := h
  have hl := Nat.lt_of_lt_of_le hg h3.size
  exact ⟨(hb.cell (p := ⟨g, 0, none⟩) hl).trans h0, (hb.cell (p := ⟨g, 1, none⟩) hl).trans h1, (hb.cell (p := ⟨g, 2, none⟩) hl).trans h2, h3.trans (hb.mono h3.size)⟩
theorem upto_succ' {k : Nat} {f : Nat → Bool} (h : ∀ j, j < k → f j = true) (hk : f k = true) : ∀ j, j < k + 1 → f j = true := fun j hj => by
  by_cases he : j = k
  · rw [he]; exact hk
  · exact h j (by omega)
end Go.Proofs.YtmbmijhfoncncaaGreatDoor
/- The contract of chart's targetsMayBe. -/
namespace Go.Proofs.YtmbmijhfoncncaaGreatDoor
open Go.ChangeShapes Go.WideShapes Go.ChangeAt Go.RowKit
set_option linter.unusedVariables false

theorem below_drew {B : Nat} {a w : World} (h : Below B a w) : Below B a w.drew := ⟨h.os, h.tape, h.output, h.size, h.block⟩
set_option maxHeartbeats 4000000 in
set_option maxRecDepth 100000 in
theorem tgts_any (vr : Int) (vs vt vl : Value) (C : Ch) (l : List Int) (w : World) (hC : ChHas w vs vt C) (hl : C.sts.length ≤ 1000) (hv : ListAt w vl l) (hll : Short l.length) :
    Calls Tryz.prog 30 #[.agg #[.int .i64 vr, vs, vt], vl] w fun e w' => e = .returned (.bool (tgtsB C.sts l)) ∧ Below w.heap.size w w' := by
  have HB := Lib.hid (below_box w (chBox vr vs vt))
  have hsh : Short C.sts.length := by unfold Short; omega
  have HN := Lib.hid (fun (W : World) (s : Int) (h : Below (w.alloc (chBox vr vs vt)).heap.size (w.alloc (chBox vr vs vt)) W) => notFirst_any vr s vs vt C W (hC.below (below_boxed h)) hsh)
  have HCN := Lib.hid (fun (W : World) (s : Int) (hs : isSt C.sts s = true) (h : Below (w.alloc (chBox vr vs vt)).heap.size (w.alloc (chBox vr vs vt)) W) => counted_any vr s vs vt C W (hC.below (below_boxed h)) hsh hs)
  have HAP := Lib.hid (fun (W : World) (a b : Int) (h : Below (w.alloc (chBox vr vs vt)).heap.size (w.alloc (chBox vr vs vt)) W) => apart_any vr a b vs vt C W (hC.below (below_boxed h)) hsh)
  obtain ⟨A, cap, rfl, hcap, hel⟩ := hv
  unfold Short at hll
  have HE := Lib.hid hel
  clear hC hel
  by_cases h3 : 3 < l.length
  · have hd : decide ((3 : Int) < (l.length : Int)) = true := by simp; omega
    have hd2 : decide (3 < l.length) = true := by simpa using h3
    have HR := Lib.hid (tgts_long (S := C.sts) h3)
    clear h3
    go_enter Tryz.func30, Tryz.ntmps30
    go_wp2_with fail
    go_ret
    exact ⟨ret_bool HR.out.symm, HB.out⟩
  · have hd : decide ((3 : Int) < (l.length : Int)) = false := by simp; omega
    have hd2 : decide (3 < l.length) = false := by simpa using h3
    have HALL := Lib.hid (tgts_all (S := C.sts) (l := l) (by omega))
    have HFI := Lib.hid (fun i hi h => tgts_first (S := C.sts) (l := l) i hi h)
    have HPA := Lib.hid (fun i k hi hk h => tgts_pair (S := C.sts) (l := l) i k hi hk h)
    generalize tgtsB C.sts l = R at *
    clear h3
    go_enter Tryz.func30, Tryz.ntmps30
    go_wp2_with fail
    go_loopw [16] (fun i wr => ∃ k : Nat, k ≤ l.length ∧ i = .int .i64 (k : Int) ∧ Hid (∀ j, j < k → notFirst C.sts (l.getD j 0) = true) ∧ Below (w.alloc (chBox vr vs vt)).heap.size (w.alloc (chBox vr vs vt)) wr) (fun i _ => l.length - (intOf i).toNat)
    case atStart => exact ⟨0, Nat.zero_le _, rfl, Lib.hid (fun j hj => by omega), Below.refl _ _⟩
    case round =>
      obtain ⟨k, hk, rfl, HO, hb⟩ := hrel
      obtain ⟨wo, rfl⟩ : ∃ wo : World, wo = wr := ⟨_, rfl⟩
      obtain ⟨x0, x1, x2⟩ := box_later hb
      by_cases hlt : k < l.length
      · obtain ⟨b, o, rfl, hbl, hc⟩ := HE.out k (l.getD k 0) (by simp [List.getD, List.getElem?_eq_getElem hlt])
        have c0 : wo.cell? ⟨b, o + k, none⟩ = some (.int .i64 (l.getD k 0)) := by have := IntAt.keeps w wo b _ _ (below_boxed hb) hbl hc; rwa [Nat.mul_one] at this
        have hbad := HFI.out k hlt
        have hgood := fun h => upto_succ' (f := fun j => notFirst C.sts (l.getD j 0)) HO.out h
        generalize l.getD k 0 = x at *
        have HBW := Lib.hid hb
        have HBAD := Lib.hid hbad
        have HGOOD := Lib.hid hgood
        clear hc hb hbad hgood
        cases hn : notFirst C.sts x with
        | false =>
          have HNN := Lib.hid hn
          clear hn
          go_wp2_with fail
          refine (HN.out _ _ HBW.out).mono ?_
          rintro e w1 ⟨rfl, hb1⟩
          have HB1 := Lib.hid (HBW.out.trans (hb1.mono HBW.out.size))
          rw [HNN.out]
          clear hb1
          go_wp2_with fail
          go_ret
          exact ⟨ret_bool (HBAD.out HNN.out).symm, below_boxed HB1.out⟩
        | true =>
          have HNN := Lib.hid hn
          clear hn
          go_wp2_with fail
          refine (HN.out _ _ HBW.out).mono ?_
          rintro e w1 ⟨rfl, hb1⟩
          have HB1 := Lib.hid (HBW.out.trans (hb1.mono HBW.out.size))
          rw [HNN.out]
          clear hb1
          go_wp2
          go_roundw
          case rel => exact ⟨k + 1, by omega, by go_num, Lib.hid (HGOOD.out HNN.out), HB1.out⟩
          case measure => simp [intOf]; omega
      · obtain rfl : k = l.length := by omega
        have HFST := Lib.hid (fun i hi => isSt_of_notFirst (HO.out i hi))
        have HALL2 := Lib.hid (HALL.out HO.out)
        have HBW := Lib.hid hb
        clear hb HO HALL HFI
        go_wp2_with fail
        go_loopw [27] (fun i wr => ∃ k : Nat, k ≤ l.length ∧ i = .int .i64 (k : Int) ∧ Hid (∀ j, j < k → pairB C.sts l j = true) ∧ Below (w.alloc (chBox vr vs vt)).heap.size (w.alloc (chBox vr vs vt)) wr) (fun i _ => l.length - (intOf i).toNat)
        case atStart => exact ⟨0, Nat.zero_le _, rfl, Lib.hid (fun j hj => by omega), HBW.out⟩
        case round =>
          obtain ⟨k, hk, rfl, HO, hb⟩ := hrel
          obtain ⟨wo2, rfl⟩ : ∃ wo2 : World, wo2 = wr := ⟨_, rfl⟩
          clear x0 x1 x2
          obtain ⟨x0, x1, x2⟩ := box_later hb
          by_cases hlt : k < l.length
          · obtain ⟨b, o, rfl, hbl, hc⟩ := HE.out k (l.getD k 0) (by simp [List.getD, List.getElem?_eq_getElem hlt])
            have c0 : wo2.cell? ⟨b, o + k, none⟩ = some (.int .i64 (l.getD k 0)) := by have := IntAt.keeps w wo2 b _ _ (below_boxed hb) hbl hc; rwa [Nat.mul_one] at this
            have hst := HFST.out k hlt
            have hbad := fun m hm => HPA.out k m hlt hm
            have hgood := fun h => upto_succ' (f := fun j => pairB C.sts l j) HO.out h
            unfold pairB at hgood
            generalize l.getD k 0 = x at *
            have HBW2 := Lib.hid hb
            have HBAD := Lib.hid hbad
            have HGOOD := Lib.hid hgood
            have HSX := Lib.hid hst
            clear hc hb hbad hgood hst
            go_wp2_with fail
            go_loopw [36] (fun i wr => ∃ m : Nat, m ≤ k ∧ i = .int .i64 (m : Int) ∧ Hid (∀ j, j < m → apart C.sts (cCnt C.sts x) (cCnt C.sts (l.getD j 0)) = true) ∧ Below (w.alloc (chBox vr vs vt)).heap.size (w.alloc (chBox vr vs vt)) wr) (fun i _ => k - (intOf i).toNat)
            case atStart => exact ⟨0, Nat.zero_le _, rfl, Lib.hid (fun j hj => by omega), HBW2.out⟩
            case round =>
              obtain ⟨m, hm, rfl, HOI, hb⟩ := hrel
              obtain ⟨wo3, rfl⟩ : ∃ wo3 : World, wo3 = wr := ⟨_, rfl⟩
              clear x0 x1 x2
              obtain ⟨x0, x1, x2⟩ := box_later hb
              by_cases hmk : m < k
              · obtain ⟨b', o', hbo, hbl', hc⟩ := HE.out m (l.getD m 0) (by simp [List.getD, List.getElem?_eq_getElem (show m < l.length by omega)])
                injection hbo with e1
                injection e1 with e2 e3
                subst e2; subst e3
                have d0 : wo3.cell? ⟨b, o + m, none⟩ = some (.int .i64 (l.getD m 0)) := by have := IntAt.keeps w wo3 b _ _ (below_boxed hb) hbl' hc; rwa [Nat.mul_one] at this
                have hst2 := HFST.out m (by omega)
                have hbad := HBAD.out m hmk
                have hgood := fun h => upto_succ' (f := fun j => apart C.sts (cCnt C.sts x) (cCnt C.sts (l.getD j 0))) HOI.out h
                generalize l.getD m 0 = y at *
                have HBW3 := Lib.hid hb
                have HBADM := Lib.hid hbad
                have HGOODM := Lib.hid hgood
                have HSY := Lib.hid hst2
                clear hc hbad hgood hst2
                have hlt0 : w.heap.size < (w.alloc (chBox vr vs vt)).heap.size := by simp
                have HG0 := Lib.hid hlt0
                clear hlt0
                cases hap : apart C.sts (cCnt C.sts x) (cCnt C.sts y) with
                | true =>
                  have HAPP := Lib.hid hap
                  clear hap
                  go_wp2_with fail
                  go_region_held3 (fun w' => w'.cell? ⟨w.heap.size, 0, none⟩ = some (.int .i64 vr) ∧ w'.cell? ⟨w.heap.size, 1, none⟩ = some vs ∧ w'.cell? ⟨w.heap.size, 2, none⟩ = some vt ∧ Below (w.alloc (chBox vr vs vt)).heap.size (w.alloc (chBox vr vs vt)) w') (first | exact ⟨x0, x1, x2, below_drew HBW3.out⟩ | exact sx_keep HG0.out (by assumption) (by assumption))
                    (first | (go_at_call 43; refine (HCN.out _ _ (by first | exact HSX.out | exact HSY.out) (by (exact (by assumption : _ ∧ _ ∧ _ ∧ _).2.2.2))).mono ?_; rintro e w' ⟨rfl, hbc⟩) | (go_at_call 42; refine (HAP.out _ _ _ (by (exact (by assumption : _ ∧ _ ∧ _ ∧ _).2.2.2))).mono ?_; rintro e w' ⟨rfl, hbc⟩))
                  have HB4 : Hid (Below (w.alloc (chBox vr vs vt)).heap.size (w.alloc (chBox vr vs vt)) w') := Lib.hid (by exact (by assumption : _ ∧ _ ∧ _ ∧ _).2.2.2)
                  rw [HAPP.out]
                  clear hbc
                  go_wp2
                  go_roundw
                  case rel => exact ⟨m + 1, by omega, by go_num, Lib.hid (HGOODM.out HAPP.out), HB4.out⟩
                  case measure => simp [intOf]; omega
                | false =>
                  have HAPP := Lib.hid hap
                  clear hap
                  go_wp2_with fail
                  go_region_held3 (fun w' => w'.cell? ⟨w.heap.size, 0, none⟩ = some (.int .i64 vr) ∧ w'.cell? ⟨w.heap.size, 1, none⟩ = some vs ∧ w'.cell? ⟨w.heap.size, 2, none⟩ = some vt ∧ Below (w.alloc (chBox vr vs vt)).heap.size (w.alloc (chBox vr vs vt)) w') (first | exact ⟨x0, x1, x2, below_drew HBW3.out⟩ | exact sx_keep HG0.out (by assumption) (by assumption))
                    (first | (go_at_call 43; refine (HCN.out _ _ (by first | exact HSX.out | exact HSY.out) (by (exact (by assumption : _ ∧ _ ∧ _ ∧ _).2.2.2))).mono ?_; rintro e w' ⟨rfl, hbc⟩) | (go_at_call 42; refine (HAP.out _ _ _ (by (exact (by assumption : _ ∧ _ ∧ _ ∧ _).2.2.2))).mono ?_; rintro e w' ⟨rfl, hbc⟩))
                  have HB4 : Hid (Below (w.alloc (chBox vr vs vt)).heap.size (w.alloc (chBox vr vs vt)) w') := Lib.hid (by exact (by assumption : _ ∧ _ ∧ _ ∧ _).2.2.2)
                  rw [HAPP.out]
                  clear hbc
                  go_wp2_with fail
                  go_ret
                  exact ⟨ret_bool (HBADM.out HAPP.out).symm, below_boxed HB4.out⟩
              · obtain rfl : m = k := by omega
                have HALLK := Lib.hid (HGOOD.out (allU_true HOI.out))
                have HBW3 := Lib.hid hb
                clear hb HOI
                go_wp2
                go_roundw
                case rel => exact ⟨m + 1, by omega, by go_num, Lib.hid (by simpa only [pairB] using HALLK.out), HBW3.out⟩
                case measure => simp [intOf]; omega
          · obtain rfl : k = l.length := by omega
            have HRR := Lib.hid (HALL2.out HO.out)
            have HBW2 := Lib.hid hb
            clear hb HO HALL2
            go_wp2_with fail
            go_ret
            exact ⟨ret_bool HRR.out.symm, below_boxed HBW2.out⟩
end Go.Proofs.YtmbmijhfoncncaaGreatDoor
