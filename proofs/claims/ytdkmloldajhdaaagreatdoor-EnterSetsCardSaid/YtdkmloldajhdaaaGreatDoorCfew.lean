/- The contracts of the document's fewActs and Few: whether a chart is small. -/
import Derived.Test.YtdkmloldajhdaaaGreatDoorCgen
namespace Go.Proofs.YtdkmloldajhdaaaGreatDoor
open Go.ChangeShapes Go.WideShapes Go.ChangeAt Go.RowKit
set_option linter.unusedVariables false

set_option maxHeartbeats 1000000 in
theorem fewActs_any (v : Value) (l : List Ac) (w : World) (hA : ActsAt w v l) (hl : Short l.length) :
    Calls Tryz.prog 18 #[v] w fun e w' => e = .returned (.bool (fewActsB l)) ∧ w = w' := by
  unfold Short at hl
  obtain ⟨A, cap, rfl, hcap, hel⟩ := hA
  have HE := Lib.hid hel
  have HRT : Hid ((∀ i, i < l.length → decide ((l.getD i noAc).expr.size ≤ 500) = true) → fewActsB l = decide (l.length ≤ 20)) := Lib.hid (fun h => by unfold fewActsB; rw [allU_true h]; rfl)
  have HRF : Hid (∀ i, i < l.length → decide ((l.getD i noAc).expr.size ≤ 500) = false → fewActsB l = false) := Lib.hid (fun i hi h => by unfold fewActsB; rw [allU_false i hi h]; rfl)
  generalize fewActsB l = R at *
  clear hel
  go_enter Tryz.func18, Tryz.ntmps18
  go_wp2_with fail
  go_loop [3] (fun i => ∃ k : Nat, k ≤ l.length ∧ i = .int .i64 (k : Int) ∧ Hid (∀ j, j < k → decide ((l.getD j noAc).expr.size ≤ 500) = true)) (fun i => l.length - (intOf i).toNat)
  case atStart => exact ⟨0, Nat.zero_le _, rfl, Lib.hid (fun j hj => by omega)⟩
  case round =>
    obtain ⟨k, hk, rfl, HO⟩ := hrel
    by_cases hlt : k < l.length
    · have hge : l[k]? = some (l.getD k noAc) := by simp [List.getD, List.getElem?_eq_getElem hlt]
      obtain ⟨b, o, rfl, hbw, hc⟩ := HE.out k _ hge
      obtain ⟨c0, c1, c2, c3⟩ := hc
      have hRF := HRF.out k hlt
      have hRO : decide ((l.getD k noAc).expr.size ≤ 500) = true → ∀ j, j < k + 1 → decide ((l.getD j noAc).expr.size ≤ 500) = true := fun h j hj => by
        by_cases he : j = k
        · rw [he]; exact h
        · exact HO.out j (by omega)
      generalize l.getD k noAc = a at *
      have HRF' := Lib.hid hRF
      have HRO := Lib.hid hRO
      clear hge hRF hRO
      by_cases hz : 500 < a.expr.size
      · have hz1 : decide ((500 : Int) < (a.expr.size : Int)) = true := by simp; omega
        have hz2 : decide (500 < a.expr.size) = true := by simpa using hz
        have HZ := Lib.hid hz
        clear hz
        go_wp2_with fail
        go_ret
        exact ⟨ret_bool (HRF'.out (by simp; exact HZ.out)).symm, rfl⟩
      · have hz1 : decide ((500 : Int) < (a.expr.size : Int)) = false := by simp; omega
        have hz2 : decide (500 < a.expr.size) = false := by simpa using hz
        have HZ := Lib.hid hz
        clear hz
        go_wp2
        go_round
        case rel => exact ⟨k + 1, by omega, by go_num, Lib.hid (HRO.out (by simp; have := HZ.out; omega))⟩
        case measure => simp [intOf]; omega
    · obtain rfl : k = l.length := by omega
      have hR := HRT.out HO.out
      by_cases hz : l.length ≤ 20
      · have hz1 : decide ((l.length : Int) ≤ (20 : Int)) = true := by simp; omega
        have hz2 : decide (l.length ≤ 20) = true := by simpa using hz
        rw [hz2] at hR
        have HR := Lib.hid hR
        clear hR hz
        go_wp2_with fail
        go_ret
        exact ⟨ret_bool HR.out.symm, rfl⟩
      · have hz1 : decide ((l.length : Int) ≤ (20 : Int)) = false := by simp; omega
        have hz2 : decide (l.length ≤ 20) = false := by simpa using hz
        rw [hz2] at hR
        have HR := Lib.hid hR
        clear hR hz
        go_wp2_with fail
        go_ret
        exact ⟨ret_bool HR.out.symm, rfl⟩
def ShortSt (s : St) : Prop := Short s.ini.length ∧ Short s.ent.length ∧ Short s.exi.length
def ShortTr (t : Tr) : Prop := Short t.tgts.length ∧ Short t.acts.length
structure ShortCh (C : Ch) : Prop where
  sts : Short C.sts.length
  trs : Short C.trs.length
  st : ∀ (k : Nat), k < C.sts.length → ShortSt (C.sts.getD k noSt)
  tr : ∀ (k : Nat), k < C.trs.length → ShortTr (C.trs.getD k noTr)
theorem ChHas.tr {w : World} {vs vt : Value} {C : Ch} (h : ChHas w vs vt C) {k : Nat} (hk : k < C.trs.length) :
    ∃ (b o cap : Nat) (wt wa : Value), vt = .slice (some ⟨b, o, none⟩) C.trs.length cap ∧ C.trs.length ≤ cap ∧ b < w.heap.size ∧ TrC w b (o + k * 6) (C.trs.getD k noTr) wt wa ∧ TrHas w wt wa (C.trs.getD k noTr) := by
  obtain ⟨_, A, cap, hv, hc, hi⟩ := h
  obtain ⟨b, o, hA, hlt, vi, ve, h0, h1⟩ := hi k (C.trs.getD k noTr) (by simp [List.getD, List.getElem?_eq_getElem hk])
  exact ⟨b, o, cap, vi, ve, by rw [hv, hA], hc, hlt, h0, h1⟩
theorem few_states {C : Ch} (h : 40 < C.sts.length) : fewB C = false := by unfold fewB; rw [show decide (C.sts.length ≤ 40) = false by simp; omega]; rfl
theorem few_trans {C : Ch} (h : 60 < C.trs.length) : fewB C = false := by unfold fewB; rw [show decide (C.trs.length ≤ 60) = false by simp; omega]; simp
theorem few_st {C : Ch} (k : Nat) (hk : k < C.sts.length) (h : fewStB (C.sts.getD k noSt) = false) : fewB C = false := by unfold fewB; rw [allU_false k hk h]; simp
theorem few_tr {C : Ch} (k : Nat) (hk : k < C.trs.length) (h : fewTrB (C.trs.getD k noTr) = false) : fewB C = false := by unfold fewB; rw [allU_false k hk h]; simp
theorem few_all {C : Ch} (h1 : C.sts.length ≤ 40) (h2 : C.trs.length ≤ 60) (h3 : ∀ k, k < C.sts.length → fewStB (C.sts.getD k noSt) = true) (h4 : ∀ k, k < C.trs.length → fewTrB (C.trs.getD k noTr) = true) : fewB C = true := by
  unfold fewB; rw [allU_true h3, allU_true h4]; simp [h1, h2]
theorem upto_succ {k : Nat} {f : Nat → Bool} (h : ∀ j, j < k → f j = true) (hk : f k = true) : ∀ j, j < k + 1 → f j = true := fun j hj => by
  by_cases he : j = k
  · rw [he]; exact hk
  · exact h j (by omega)
set_option maxHeartbeats 4000000 in
set_option maxRecDepth 100000 in
theorem few_any (vr : Int) (vs vt : Value) (C : Ch) (w : World) (hC : ChHas w vs vt C) (hl : ShortCh C) :
    Calls Tryz.prog 7 #[.agg #[.int .i64 vr, vs, vt]] w fun e w' => e = .returned (.bool (fewB C)) ∧ Below w.heap.size w w' := by
  have hls := hl.sts
  have hlt := hl.trs
  unfold Short at hls hlt
  have HB := Lib.hid (below_box w (chBox vr vs vt))
  have HC := Lib.hid hC
  have HSH := Lib.hid hl
  obtain ⟨A, cap, rfl, hcap⟩ := RowsAt.slice hC.1
  obtain ⟨A2, cap2, rfl, hcap2⟩ := RowsAt.slice hC.2
  clear hC hl
  by_cases h40 : 40 < C.sts.length
  · have hd1 : decide ((40 : Int) < (C.sts.length : Int)) = true := by simp; omega
    have hd2 : decide (40 < C.sts.length) = true := by simpa using h40
    have HR := Lib.hid (few_states h40)
    clear h40
    go_enter Tryz.func7, Tryz.ntmps7
    go_wp2_with fail
    go_ret
    exact ⟨ret_bool HR.out.symm, HB.out⟩
  · have hd1 : decide ((40 : Int) < (C.sts.length : Int)) = false := by simp; omega
    have hd2 : decide (40 < C.sts.length) = false := by simpa using h40
    by_cases h60 : 60 < C.trs.length
    · have hd3 : decide ((60 : Int) < (C.trs.length : Int)) = true := by simp; omega
      have hd4 : decide (60 < C.trs.length) = true := by simpa using h60
      have HR := Lib.hid (few_trans h60)
      clear h60
      go_enter Tryz.func7, Tryz.ntmps7
      go_wp2_with fail
      go_ret
      exact ⟨ret_bool HR.out.symm, HB.out⟩
    · have hd3 : decide ((60 : Int) < (C.trs.length : Int)) = false := by simp; omega
      have hd4 : decide (60 < C.trs.length) = false := by simpa using h60
      have HALL := Lib.hid (few_all (C := C) (by omega) (by omega))
      have HST := Lib.hid (fun k hk h => few_st (C := C) k hk h)
      have HTR := Lib.hid (fun k hk h => few_tr (C := C) k hk h)
      generalize fewB C = R at *
      go_enter Tryz.func7, Tryz.ntmps7
      go_wp2_with fail
      go_loop [3] (fun i => ∃ k : Nat, k ≤ C.sts.length ∧ i = .int .i64 (k : Int) ∧ Hid (∀ j, j < k → fewStB (C.sts.getD j noSt) = true)) (fun i => C.sts.length - (intOf i).toNat)
      case atStart => exact ⟨0, Nat.zero_le _, rfl, Lib.hid (fun j hj => by omega)⟩
      case round =>
        obtain ⟨k, hk, rfl, HO⟩ := hrel
        by_cases hkl : k < C.sts.length
        · obtain ⟨b, o, cap', vi, ve, vx, hsl, _, hbl, hst, hhas⟩ := HC.out.st hkl
          injection hsl with e1 e2 e3
          subst e1
          obtain ⟨c0, c1, c2, c3, c4⟩ := hst
          have hsh := HSH.out.st k hkl
          have hbad := HST.out k hkl
          have hgood := upto_succ (f := fun j => fewStB (C.sts.getD j noSt)) HO.out
          rw [show stAt C.sts (k : Int) = C.sts.getD k noSt from rfl] at hhas c0 c1
          generalize C.sts.getD k noSt = S at *
          obtain ⟨iA, icap, eA, ecap, xA, xcap, rfl, rfl, rfl⟩ := hhas.slices
          have HE := Lib.hid (fewActs_any _ S.ent _ (hhas.2.1.below HB.out) hsh.2.1)
          have HX := Lib.hid (fewActs_any _ S.exi _ (hhas.2.2.below HB.out) hsh.2.2)
          have hil := hsh.1
          unfold Short at hil
          unfold fewStB at hbad hgood
          clear hhas hsh e2 e3
          cases he : fewActsB S.ent with
          | false =>
            have HBAD := Lib.hid (hbad (by rw [he]; rfl))
            have HEE := Lib.hid he
            clear he hbad hgood
            go_wp2_with fail
            refine HE.out.mono ?_
            rintro e w' ⟨rfl, rfl⟩
            rw [HEE.out]
            go_wp2_with fail
            refine HX.out.mono ?_
            rintro e w' ⟨rfl, rfl⟩
            go_wp2_with fail
            go_ret
            exact ⟨ret_bool HBAD.out.symm, HB.out⟩
          | true =>
            cases hx : fewActsB S.exi with
            | false =>
              have HBAD := Lib.hid (hbad (by rw [he, hx]; rfl))
              have HEE := Lib.hid he
              have HXX := Lib.hid hx
              clear he hx hbad hgood
              go_wp2_with fail
              refine HE.out.mono ?_
              rintro e w' ⟨rfl, rfl⟩
              rw [HEE.out]
              go_wp2_with fail
              refine HX.out.mono ?_
              rintro e w' ⟨rfl, rfl⟩
              rw [HXX.out]
              go_wp2_with fail
              go_ret
              exact ⟨ret_bool HBAD.out.symm, HB.out⟩
            | true =>
              by_cases hi : 20 < S.ini.length
              · have hi1 : decide ((20 : Int) < (S.ini.length : Int)) = true := by simp; omega
                have hi2 : decide (20 < S.ini.length) = true := by simpa using hi
                have HBAD := Lib.hid (hbad (by rw [he, hx, show decide (S.ini.length ≤ 20) = false by simp; omega]; rfl))
                have HEE := Lib.hid he
                have HXX := Lib.hid hx
                clear he hx hbad hgood hi
                go_wp2_with fail
                refine HE.out.mono ?_
                rintro e w' ⟨rfl, rfl⟩
                rw [HEE.out]
                go_wp2_with fail
                refine HX.out.mono ?_
                rintro e w' ⟨rfl, rfl⟩
                rw [HXX.out]
                go_wp2_with fail
                go_ret
                exact ⟨ret_bool HBAD.out.symm, HB.out⟩
              · have hi1 : decide ((20 : Int) < (S.ini.length : Int)) = false := by simp; omega
                have hi2 : decide (20 < S.ini.length) = false := by simpa using hi
                have HGOOD := Lib.hid (hgood (by rw [he, hx, show decide (S.ini.length ≤ 20) = true by simp; omega]; rfl))
                have HEE := Lib.hid he
                have HXX := Lib.hid hx
                clear he hx hbad hgood hi
                go_wp2_with fail
                refine HE.out.mono ?_
                rintro e w' ⟨rfl, rfl⟩
                rw [HEE.out]
                go_wp2_with fail
                refine HX.out.mono ?_
                rintro e w' ⟨rfl, rfl⟩
                rw [HXX.out]
                go_wp2
                go_round
                case rel => exact ⟨k + 1, by omega, by go_num, Lib.hid (by simpa only [fewStB] using HGOOD.out)⟩
                case measure => simp [intOf]; omega
        · obtain rfl : k = C.sts.length := by omega
          have HALL2 := Lib.hid (HALL.out HO.out)
          clear HALL HST HO
          go_wp2_with fail
          go_loop [6] (fun i => ∃ k : Nat, k ≤ C.trs.length ∧ i = .int .i64 (k : Int) ∧ Hid (∀ j, j < k → fewTrB (C.trs.getD j noTr) = true)) (fun i => C.trs.length - (intOf i).toNat)
          case atStart => exact ⟨0, Nat.zero_le _, rfl, Lib.hid (fun j hj => by omega)⟩
          case round =>
            obtain ⟨k, hk, rfl, HO⟩ := hrel
            by_cases hkl : k < C.trs.length
            · obtain ⟨b, o, cap', vi, ve, hsl, _, hbl, hst, hhas⟩ := HC.out.tr hkl
              injection hsl with e1 e2 e3
              subst e1
              obtain ⟨c0, c1, c2, c3, c4, c5⟩ := hst
              have hsh := HSH.out.tr k hkl
              have hbad := HTR.out k hkl
              have hgood := upto_succ (f := fun j => fewTrB (C.trs.getD j noTr)) HO.out
              generalize C.trs.getD k noTr = S at *
              obtain ⟨tA, tcap, aA, acap, rfl, rfl⟩ := hhas.slices
              have HE := Lib.hid (fewActs_any _ S.acts _ (hhas.2.below HB.out) hsh.2)
              have hil := hsh.1
              unfold Short at hil
              unfold fewTrB at hbad hgood
              clear hhas hsh e2 e3
              cases he : fewActsB S.acts with
              | false =>
                have HBAD := Lib.hid (hbad (by rw [he]; rfl))
                have HEE := Lib.hid he
                clear he hbad hgood
                go_wp2_with fail
                refine HE.out.mono ?_
                rintro e w' ⟨rfl, rfl⟩
                rw [HEE.out]
                go_wp2_with fail
                go_ret
                exact ⟨ret_bool HBAD.out.symm, HB.out⟩
              | true =>
                by_cases hi : 20 < S.tgts.length
                · have hi1 : decide ((20 : Int) < (S.tgts.length : Int)) = true := by simp; omega
                  have hi2 : decide (20 < S.tgts.length) = true := by simpa using hi
                  have HBAD := Lib.hid (hbad (by rw [he, show decide (S.tgts.length ≤ 20) = false by simp; omega]; rfl))
                  have HEE := Lib.hid he
                  clear he hbad hgood hi
                  go_wp2_with fail
                  refine HE.out.mono ?_
                  rintro e w' ⟨rfl, rfl⟩
                  rw [HEE.out]
                  go_wp2_with fail
                  go_ret
                  exact ⟨ret_bool HBAD.out.symm, HB.out⟩
                · have hi1 : decide ((20 : Int) < (S.tgts.length : Int)) = false := by simp; omega
                  have hi2 : decide (20 < S.tgts.length) = false := by simpa using hi
                  by_cases hg : 500 < S.guard.size
                  · have hg1 : decide ((500 : Int) < (S.guard.size : Int)) = true := by simp; omega
                    have hg2 : decide (500 < S.guard.size) = true := by simpa using hg
                    have HBAD := Lib.hid (hbad (by rw [show decide (S.guard.size ≤ 500) = false by simp; omega]; simp))
                    have HEE := Lib.hid he
                    clear he hbad hgood hi hg
                    go_wp2_with fail
                    refine HE.out.mono ?_
                    rintro e w' ⟨rfl, rfl⟩
                    rw [HEE.out]
                    go_wp2_with fail
                    go_ret
                    exact ⟨ret_bool HBAD.out.symm, HB.out⟩
                  · have hg1 : decide ((500 : Int) < (S.guard.size : Int)) = false := by simp; omega
                    have hg2 : decide (500 < S.guard.size) = false := by simpa using hg
                    have HGOOD := Lib.hid (hgood (by rw [he, show decide (S.tgts.length ≤ 20) = true by simp; omega, show decide (S.guard.size ≤ 500) = true by simp; omega]; rfl))
                    have HEE := Lib.hid he
                    clear he hbad hgood hi hg
                    go_wp2_with fail
                    refine HE.out.mono ?_
                    rintro e w' ⟨rfl, rfl⟩
                    rw [HEE.out]
                    go_wp2
                    go_round
                    case rel => exact ⟨k + 1, by omega, by go_num, Lib.hid (by simpa only [fewTrB] using HGOOD.out)⟩
                    case measure => simp [intOf]; omega
            · obtain rfl : k = C.trs.length := by omega
              have HALL3 := Lib.hid (HALL2.out HO.out)
              clear HALL2 HTR HO
              go_wp2_with fail
              go_ret
              exact ⟨ret_bool HALL3.out.symm, HB.out⟩
end Go.Proofs.YtdkmloldajhdaaaGreatDoor
