/- The law WheelOnce: it holds. -/
import Derived.Test.YtlfiijlfokckkaaYonp
import Derived.Laws.StructEq
namespace Go.Proofs.Ytlfiijlfokckkaa
open Go.ChangeShapes Go.WideShapes Go.ChangeAt Go.RowKit Go.Maps
set_option linter.unusedVariables false

theorem fields30 : Try.prog.underlying 30 = some (.struct (Try.prog.fieldsOf 30)) := by kernel_rfl
theorem held30 : Try.prog.stoodInHeld 30 = false := by kernel_rfl
theorem neq_tm (a b c : Int) (w : World) : (binOp .neq 30 (.agg #[.int .i64 a, .int .i64 b, .int .i64 c]) (.agg #[.int .i64 a, .int .i64 b, .int .i64 c])).run Try.prog w = .ok (.bool false) w := by
  rw [run_neq_struct, run_equalIn_agg _ _ _ _ _ fields30 held30]
  simp [go_sem]
theorem rowIs_tms {w : World} {v : Value} {L : List Tm} (h : TmsAt w v L) : RowIs w 3 v L.length (rowT L) :=
  rowIs_of (cells := encT) (fun _ => rfl) (by decide) h (fun b o x hp j u hu => by
    obtain ⟨p0, p1, p2⟩ := hp
    match j, hu with
    | 0, hu => simp [encT] at hu; subst hu; exact p0
    | 1, hu => simp [encT] at hu; subst hu; exact p1
    | 2, hu => simp [encT] at hu; subst hu; exact p2
    | j + 3, hu => simp [encT] at hu) (fun x _ u hu => tm_one x u hu)
theorem rowT_app (A B : List Tm) : rowT (A ++ B) = rowT A ++ rowT B := List.flatMap_append
theorem OwnT.app {w : World} {B : Nat} {v : Value} {L M : List Tm} (h : w.ownsRow B 30 3 v (L.length + M.length) (rowT L ++ rowT M)) : OwnT w B v (L ++ M) := by
  unfold OwnT
  rw [rowT_app, List.length_append]
  exact h
theorem due_few {S R : List Tm} {now : Int} (h : DueOf S now R) : R.length ≤ S.length := by have := due_len h; omega
theorem Own.apart {g m g' m' : Nat} {vs vs' : Nat → Value} {X : Nat} (h : ∀ b, Own g m vs b → b < X) {b : Nat} (hb : X ≤ b) : ¬ Own g m vs b := fun hc => by have := h b hc; omega
set_option maxHeartbeats 8000000 in
set_option maxRecDepth 100000 in
theorem once_any (va vt : Value) (at_ ts : List Int) (w : World) (ha : ListAt w va at_) (ht : ListAt w vt ts) (hfa : ∀ (i : Nat) (x : Int), at_[i]? = some x → F64 x) (hft : ∀ (i : Nat) (x : Int), ts[i]? = some x → F64 x) (hsa : Short at_.length) (hst : Short ts.length) :
    Calls Try.prog 4 #[va, vt] w fun e w' => e = .returned (.bool true) ∧ Below w.heap.size w w' := by
  have HUP := Lib.hid up_any
  have HNEW := Lib.hid new_any
  obtain ⟨Aa, capa, rfl, hca, hcella⟩ := ha
  obtain ⟨At, capt, rfl, hct, hcellt⟩ := ht
  have HCA := Lib.hid hcella
  have HCT := Lib.hid hcellt
  have HFA := Lib.hid hfa
  have HFT := Lib.hid hft
  have nn := neq_nil_nil
  unfold Short at hsa hst
  clear hcella hcellt hfa hft
  have big : 50 < at_.length ∨ 50 < ts.length → Calls Try.prog 4 #[.slice Aa at_.length capa, .slice At ts.length capt] w fun e w' => e = .returned (.bool true) ∧ Below w.heap.size w w' := by
    intro hbig
    have hd : (decide ((50 : Int) < (at_.length : Int)) || decide ((50 : Int) < (ts.length : Int))) = true := by simp; omega
    by_cases h1 : 50 < at_.length
    · have h1z : (50 : Int) < (at_.length : Int) := by omega
      clear hbig hd
      go_enter Try.func4, Try.ntmps4
      go_wp2_with fail
      refine (HUP.out _).mono ?_
      rintro e w1 ⟨rfl, hb1⟩
      have HB1 := Lib.hid hb1
      clear hb1
      go_wp2_with fail
      refine (HNEW.out _).mono ?_
      rintro e w2 ⟨hb2, hs2, rfl, _⟩
      have HB2 := Lib.hid (HB1.out.trans (hb2.mono HB1.out.size))
      clear hb2 hs2
      go_wp2_with fail
      refine (HNEW.out _).mono ?_
      rintro e w3 ⟨hb3, hs3, rfl, _⟩
      have HB3 := Lib.hid (HB2.out.trans (hb3.mono HB2.out.size))
      clear hb3 hs3
      go_wp2_with fail
      go_ret
      exact ⟨rfl, HB3.out⟩
    · have h1z : ¬ (50 : Int) < (at_.length : Int) := by omega
      have h2z : (50 : Int) < (ts.length : Int) := by omega
      clear hbig hd
      go_enter Try.func4, Try.ntmps4
      go_wp2_with fail
      refine (HUP.out _).mono ?_
      rintro e w1 ⟨rfl, hb1⟩
      have HB1 := Lib.hid hb1
      clear hb1
      go_wp2_with fail
      refine (HNEW.out _).mono ?_
      rintro e w2 ⟨hb2, hs2, rfl, _⟩
      have HB2 := Lib.hid (HB1.out.trans (hb2.mono HB1.out.size))
      clear hb2 hs2
      go_wp2_with fail
      refine (HNEW.out _).mono ?_
      rintro e w3 ⟨hb3, hs3, rfl, _⟩
      have HB3 := Lib.hid (HB2.out.trans (hb3.mono HB2.out.size))
      clear hb3 hs3
      go_wp2_with fail
      go_ret
      exact ⟨rfl, HB3.out⟩
  by_cases hbig : 50 < at_.length ∨ 50 < ts.length
  · exact big hbig
  · clear big
    have h1z : ¬ (50 : Int) < (at_.length : Int) := by omega
    have h2z : ¬ (50 : Int) < (ts.length : Int) := by omega
    go_enter Try.func4, Try.ntmps4
    go_wp2_with fail
    refine (HUP.out _).mono ?_
    rintro e w1 ⟨rfl, hb1⟩
    have HB1 := Lib.hid hb1
    clear hb1
    go_wp2_with fail
    refine (HNEW.out _).mono ?_
    rintro e w2 ⟨hb2, hs2, rfl, hw2⟩
    have HB2 := Lib.hid (HB1.out.trans (hb2.mono HB1.out.size))
    obtain ⟨g, hg⟩ : ∃ g, g = w1.heap.size + 1 := ⟨_, rfl⟩
    obtain ⟨m, hm⟩ : ∃ m, m = w1.heap.size := ⟨_, rfl⟩
    rw [← hg] at hw2
    rw [← hg]
    have HV2 : Hid (WhAt w.heap.size w2 g m (fun _ => .slice none 0 0) 0 []) := Lib.hid (by
      have := hw2
      rw [← hm] at this
      exact ⟨this.blk, this.ids, fun k hk => World.ownsRow_nil _ _ _ _, this.apart, Nat.le_trans (by rw [hm]; exact HB1.out.size) this.Bg, by rw [hm]; exact HB1.out.size⟩)
    clear hb2 hs2 hw2 hg hm
    go_wp2_with fail
    refine (HNEW.out _).mono ?_
    rintro e w3 ⟨hb3, hs3, rfl, hw3⟩
    have HB3 := Lib.hid (HB2.out.trans (hb3.mono HB2.out.size))
    obtain ⟨g', hg⟩ : ∃ g', g' = w2.heap.size + 1 := ⟨_, rfl⟩
    obtain ⟨m', hm⟩ : ∃ m', m' = w2.heap.size := ⟨_, rfl⟩
    rw [← hg] at hw3
    rw [← hg]
    have HW3 : Hid (WhAt w.heap.size w3 g' m' (fun _ => .slice none 0 0) 0 []) := Lib.hid (by
      have := hw3
      rw [← hm] at this
      exact ⟨this.blk, this.ids, fun k hk => World.ownsRow_nil _ _ _ _, this.apart, Nat.le_trans (by rw [hm]; exact HB2.out.size) this.Bg, by rw [hm]; exact HB2.out.size⟩)
    have HV3 := Lib.hid (HV2.out.below hb3)
    have HAP3 : Hid (∀ b, Own g m (fun _ => Value.slice none 0 0) b → ¬ Own g' m' (fun _ => Value.slice none 0 0) b) := Lib.hid fun b hb hc => by
      have h1 := (HV2.out.own_lt b hb).2
      rcases hc with hc | hc | ⟨k, _, hc⟩
      · omega
      · omega
      · cases hc
    clear hb3 hs3 hw3 hg hm
    go_wp2_with fail
    go_loopg [10, 8] at_.length (fun kx s10 s8 wr => ∃ (i : Nat) (vs vs' : Nat → Value), s10 = .int .i64 (i : Int) ∧ s8 = .int .i64 (i : Int) ∧ i ≤ at_.length ∧ at_.length - i ≤ kx ∧ Hid (WhAt w.heap.size wr g m vs 0 (onceS at_ i)) ∧ Hid (WhAt w.heap.size wr g' m' vs' 0 (onceS at_ i)) ∧ Hid (Sound 0 (onceS at_ i)) ∧ Hid (∀ b, Own g m vs b → ¬ Own g' m' vs' b) ∧ Hid (Below w.heap.size w wr))
    case atStart => exact ⟨0, _, _, rfl, rfl, Nat.zero_le _, by omega, HV3, HW3, Lib.hid sound_nil, HAP3, HB3⟩
    case round =>
      clear HV3 HW3 HAP3 HB3 HB1 HB2 HV2
      obtain ⟨i, vs, vs', hs10, hs8, hi, hkx, HV, HW, HS, HAP, HB⟩ := hrel
      subst hs10
      subst hs8
      obtain ⟨wi, rfl⟩ : ∃ W : World, W = wr := ⟨_, rfl⟩
      by_cases hlt : i < at_.length
      · have hltz : (i : Int) < (at_.length : Int) := by omega
        have hx := List.getElem?_eq_getElem hlt
        obtain ⟨b, o, rfl, hbl, hc⟩ := HCA.out i _ hx
        have c0 := (HB.out.cell (p := ⟨b, _, none⟩) hbl).trans hc
        have hf := HFA.out i _ hx
        have hgd : at_.getD i 0 = at_[i] := by rw [List.getD_eq_getElem?_getD, hx]; rfl
        have HSU := Lib.hid (onceS_succ at_ i)
        rw [hgd] at HSU
        generalize at_[i] = x at c0 hf HSU
        have HP := Lib.hid (pick_any x 1000 wi hf (by omega) (by omega))
        have hpr := pickF_in x (n := 1000) (by omega)
        generalize pickF x 1000 = P at HP hpr HSU
        have w1 : IntKind.i64.wrap (1 + P) = 1 + P := by rw [IntKind.wrap_i64]; omega
        have wi1 : IntKind.i64.wrap ((i : Int) + 1) = (i : Int) + 1 := by rw [IntKind.wrap_i64]; omega
        have hS2 := HS.out.snoc (t := ⟨(i : Int), 1 + P, 1 + P⟩) (onceS_new at_ i) (by simp only; omega) (by simp only; omega) (by simp only; unfold F64; omega) (by rw [onceS_len]; omega)
        have HS2 := Lib.hid hS2
        have HC1 := Lib.hid (set_ok w.heap.size g m vs 0 (i : Int) (1 + P) (1 + P) _ wi HV.out (by unfold F64; omega) (onceS_new at_ i) (by omega) (by omega) (by omega) (by rw [onceS_len]; omega))
        have HI50 : Hid (i < 50) := Lib.hid (by omega)
        have HPR := Lib.hid hpr
        have hix : (i : Int) * 1 = (i : Int) := Int.mul_one _
        simp only [Nat.mul_one] at c0
        clear hx hc hf hgd hpr hS2 hbl
        go_wp2_with fail
        refine HP.out.mono ?_
        rintro e w4 ⟨rfl, rfl⟩
        go_wp2_with fail
        refine HC1.out.mono ?_
        rintro e w5 ⟨rfl, v5, hk5, hw5, ho5⟩
        have HV5 := Lib.hid hw5
        have HW5 := Lib.hid (HW.out.kb hk5 (fun b hb hc => HAP.out b hc hb))
        have HB5 := Lib.hid (below_kb HB.out hk5 (fun b hb => (HV.out.own_lt b hb).1))
        have HAP5 : Hid (∀ b, Own g m v5 b → ¬ Own g' m' vs' b) := Lib.hid fun b hb hc => by
          rcases ho5 b hb with h1 | h1
          · exact HAP.out b h1 hc
          · have := (HW.out.own_lt b hc).2
            omega
        have HC2 := Lib.hid (set_ok w.heap.size g' m' vs' 0 (i : Int) (1 + P) (1 + P) _ w5 HW5.out (by have := HI50.out; unfold F64; omega) (onceS_new at_ i) (by omega) (by have := HPR.out; omega) (by have := HPR.out; omega) (by have := HI50.out; rw [onceS_len]; omega))
        clear hk5 hw5 ho5 c0
        go_wp2_with fail
        refine HC2.out.mono ?_
        rintro e w6 ⟨rfl, v6, hk6, hw6, ho6⟩
        have HW6 := Lib.hid hw6
        have HV6 := Lib.hid (HV5.out.kb hk6 (fun b hb hc => HAP5.out b hb hc))
        have HB6 := Lib.hid (below_kb HB5.out hk6 (fun b hb => (HW5.out.own_lt b hb).1))
        have HAP6 : Hid (∀ b, Own g m v5 b → ¬ Own g' m' v6 b) := Lib.hid fun b hb hc => by
          rcases ho6 b hc with h1 | h1
          · exact HAP5.out b hb h1
          · have := (HV5.out.own_lt b hb).2
            omega
        clear hk6 hw6 ho6
        go_wp2_with fail
        go_roundg (at_.length - (i + 1))
        case measure => omega
        case rel => exact ⟨i + 1, v5, v6, by go_num, by go_num, by omega, by omega, Lib.hid (by rw [HSU.out]; exact HV6.out), Lib.hid (by rw [HSU.out]; exact HW6.out), Lib.hid (by rw [HSU.out]; exact HS2.out), HAP6, HB6⟩
      · have hltz : ¬ (i : Int) < (at_.length : Int) := by omega
        obtain rfl : i = at_.length := by omega
        obtain ⟨S, HSS⟩ : ∃ S, Hid (S = onceS at_ at_.length) := ⟨_, Lib.hid rfl⟩
        rw [← HSS.out] at HV HW HS
        have HSN : Hid (S.length = at_.length) := Lib.hid (by rw [HSS.out, onceS_len])
        have HWH : Hid (∀ t ∈ S, t.wh = t.tick) := Lib.hid (by rw [HSS.out]; exact onceS_wh _ _)
        obtain ⟨X, HX⟩ : ∃ X, Hid (X = wi.heap.size) := ⟨_, Lib.hid rfl⟩
        have HXB : Hid (w.heap.size ≤ X) := Lib.hid (by rw [HX.out]; exact HB.out.size)
        have HVX : Hid (∀ b, Own g m vs b → b < X ∧ ¬ Own g' m' vs' b) := Lib.hid fun b hb => ⟨by rw [HX.out]; exact (HV.out.own_lt b hb).2, HAP.out b hb⟩
        have HWX : Hid (∀ b, Own g' m' vs' b → b < X) := Lib.hid fun b hb => by rw [HX.out]; exact (HW.out.own_lt b hb).2
        have HWV : Hid (∀ b, Own g' m' vs' b → w.heap.size ≤ b) := Lib.hid fun b hb => (HW.out.own_lt b hb).1
        have HVR : Hid (WhAt w.heap.size wi g m vs 0 (restF S 0)) := Lib.hid (by rw [rest_start HS.out]; exact HV.out)
        have HSR : Hid (Sound 0 (restF S 0)) := Lib.hid (by rw [rest_start HS.out]; exact HS.out)
        have HXW : Hid (X ≤ wi.heap.size) := Lib.hid (by rw [HX.out]; exact Nat.le_refl _)
        obtain ⟨i0, hi0, hz0, hz1, hz2⟩ := info_parts Try.info30
        have HI := Lib.hid hi0
        have HZ0 := Lib.hid hz0
        have HZ1 := Lib.hid hz1
        have HZ2 := Lib.hid hz2
        clear HV HAP HSS HX hi0 hz0 hz1 hz2 hi hkx hltz hlt
        go_wp2_with fail
        go_loopg [15, 9, 14] ts.length (fun kx s15 s9 s14 wr => ∃ (i : Nat) (most : Int) (vv : Nat → Value) (A : List Tm), s15 = .int .i64 (i : Int) ∧ s9 = .int .i64 most ∧ i ≤ ts.length ∧ ts.length - i ≤ kx ∧ 0 ≤ most ∧ most ≤ 100 * (i : Int) ∧ Hid (WhAt w.heap.size wr g m vv most (restF S most)) ∧ Hid (Sound most (restF S most)) ∧ Hid (OwnT wr X s14 A ∧ DueOf S most A) ∧ Hid (WhAt w.heap.size wr g' m' vs' 0 S) ∧ Hid (∀ b, Own g m vv b → b < X ∧ ¬ Own g' m' vs' b) ∧ Hid (Below w.heap.size w wr) ∧ Hid (X ≤ wr.heap.size))
        case atStart => exact ⟨0, 0, vs, [], rfl, rfl, Nat.zero_le _, by omega, by omega, by omega, HVR, HSR, Lib.hid ⟨OwnT.nil _ _, due_start HS.out⟩, HW, HVX, HB, HXW⟩
        case round =>
          clear HVR HSR HW HVX HB HXW
          obtain ⟨i, most, vv, A, hs15, hs9, hi, hkx, hm0, hm1, HV, HSv, HA, HW, HVX, HB, HXW⟩ := hrel
          subst hs15
          subst hs9
          obtain ⟨wi, rfl⟩ : ∃ W : World, W = wr := ⟨_, rfl⟩
          have HA50 : Hid (A.length ≤ 50) := Lib.hid (by have := due_few HA.out.2; have := HSN.out; omega)
          by_cases hlt : i < ts.length
          · have hltz : (i : Int) < (ts.length : Int) := by omega
            have hx := List.getElem?_eq_getElem hlt
            obtain ⟨b, o, rfl, hbl, hc⟩ := HCT.out i _ hx
            have c0 := (HB.out.cell (p := ⟨b, _, none⟩) hbl).trans hc
            have hf := HFT.out i _ hx
            generalize ts[i] = x at c0 hf
            have HP := Lib.hid (pick_any x 100 wi hf (by omega) (by omega))
            have hpr := pickF_in x (n := 100) (by omega)
            generalize pickF x 100 = P at HP hpr
            obtain ⟨M, hM⟩ : ∃ M, M = most + P := ⟨_, rfl⟩
            have w1 : IntKind.i64.wrap (most + P) = M := by rw [IntKind.wrap_i64]; omega
            have wi1 : IntKind.i64.wrap ((i : Int) + 1) = (i : Int) + 1 := by rw [IntKind.wrap_i64]; omega
            have HM : Hid (M = most + P ∧ 0 ≤ P ∧ P < 100) := Lib.hid ⟨hM, hpr⟩
            have HT := Lib.hid (tick_ok w.heap.size g m vv most M _ wi HV.out HSv.out (by omega) (by omega))
            simp only [Nat.mul_one] at c0
            have HIM : Hid (0 ≤ most ∧ most ≤ 100 * (i : Int) ∧ i < ts.length ∧ ts.length ≤ 50) := Lib.hid ⟨hm0, hm1, hlt, by omega⟩
            clear hx hc hf hpr hbl hM
            go_wp2_with fail
            refine HP.out.mono ?_
            rintro e w4 ⟨rfl, rfl⟩
            go_wp2_with fail
            refine HT.out.mono ?_
            rintro e w5 ⟨v, R, v5, rfl, hR, hown, hk5, hw5, ho5⟩
            rw [rest_step S (by have := HM.out; omega)] at hw5
            have HV5 := Lib.hid hw5
            have HW5 := Lib.hid (HW.out.kb hk5 (fun b hb hc => (HVX.out b hc).2 hb))
            have HB5 := Lib.hid (below_kb HB.out hk5 (fun b hb => (HV.out.own_lt b hb).1))
            have HA5 : Hid (OwnT w5 X u14 A) := Lib.hid (own_kb HA.out.1 hk5 (fun b hb hc => by
              have h1 := (HA.out.1.lt b hb).1
              have h2 := (HVX.out b hc).1
              omega))
            have HR5 := Lib.hid hown
            have HD5 := Lib.hid (due_step HA.out.2 hR (by have := HM.out; omega))
            have HVX5 : Hid (∀ b, Own g m v5 b → b < X ∧ ¬ Own g' m' vs' b) := Lib.hid fun b hb => HVX.out b (ho5 b hb)
            have HS5 : Hid (Sound M (restF S M)) := Lib.hid (by
              have := rest_sound HSv.out (now := M) (by have := HM.out; omega) (by have := HM.out; have := HIM.out; omega)
              rwa [rest_step S (by have := HM.out; omega)] at this)
            have HXW5 : Hid (X ≤ w5.heap.size) := Lib.hid (Nat.le_trans HXW.out hk5.size)
            have HR50 : Hid (R.length ≤ 50) := Lib.hid (by have := due_few HD5.out; rw [List.length_append] at this; have := HSN.out; omega)
            have HMEM : Hid (∀ t ∈ R, t.tick ≤ M ∧ t.wh = t.tick) := Lib.hid fun t ht => by
              have h1 := (mem_due hR t).1 ht
              exact ⟨h1.2, HWH.out t (List.mem_filter.1 h1.1).1⟩
            obtain ⟨Al, capl, hv⟩ := hown.slice
            subst hv
            clear hR hown hk5 hw5 ho5 c0
            go_wp2_with fail
            go_loopg [18] R.length (fun ky s18 wr => ∃ (k q : Nat), s18 = .int .i64 (k : Int) ∧ wr = w5.drewN q ∧ k ≤ R.length ∧ R.length - k ≤ ky)
            case atStart => exact ⟨0, 0, rfl, rfl, Nat.zero_le _, by omega⟩
            case round =>
              obtain ⟨k, q, hs18, hwr, hk, hky⟩ := hrel
              subst hs18
              subst hwr
              by_cases hkl : k < R.length
              · have hklz : (k : Int) < (R.length : Int) := by omega
                have hx := List.getElem?_eq_getElem hkl
                obtain ⟨A0, cap0, hsl, hcap, hcells⟩ := HR5.out.tms
                injection hsl with hs1 hs2 hs3
                subst hs1; subst hs3
                obtain ⟨b2, o2, rfl, hbl2, ⟨d0, d1, d2⟩⟩ := hcells k _ hx
                have hmem := HMEM.out _ (List.getElem_mem hkl)
                generalize R[k] = t at d0 d1 d2 hmem
                obtain ⟨t0, t1, t2⟩ := t
                simp only at d0 d1 d2 hmem
                obtain ⟨hm1', rfl⟩ := hmem
                have hgt : ¬ M < t2 := by omega
                have wk1 : IntKind.i64.wrap ((k : Int) + 1) = (k : Int) + 1 := by have := HR50.out; rw [IntKind.wrap_i64]; omega
                clear hx hcells hs2 hcap hbl2
                go_wp2_with fail
                go_quiet (fail)
                go_wp2_with fail
                go_roundg (R.length - (k + 1))
                case measure => omega
                case rel => exact ⟨k + 1, q + nq, by go_num, rfl, by omega, by omega⟩
              · have hklz : ¬ (k : Int) < (R.length : Int) := by omega
                obtain rfl : k = R.length := by omega
                have hbq : Below w5.heap.size w5 (w5.drewN q) := below_drewN (Below.refl _ _) q
                have HAQ := Lib.hid (HA5.out.below hbq)
                have HRQ := Lib.hid (HR5.out.below hbq).tms
                have HVQ := Lib.hid (HV5.out.below hbq)
                have HWQ := Lib.hid (HW5.out.below hbq)
                have HBQ := Lib.hid (HB5.out.trans (hbq.mono HB5.out.size))
                have HXQ : Hid (X ≤ (w5.drewN q).heap.size) := Lib.hid HXW5.out
                clear hbq
                generalize w5.drewN q = wq at *
                have HRI := Lib.hid (rowIs_tms HRQ.out)
                go_wp2_with (at_builtin; refine wpList_append_row rfl _ _ 26 rfl X 30 i0 (.agg #[.int .i64 0, .int .i64 0, .int .i64 0]) 3 24 Try.underlying26 HI.out HZ0.out HZ1.out HZ2.out rfl (by decide) _ _ _ rfl HAQ.out _ _ _ rfl HRI.out (Below.refl _ _) ?c3 ?c4 HXQ.out ?_)
                case c3 => have := HA50.out; have := HR50.out; unfold maxLen; omega
                case c4 => have := HA50.out; have := HR50.out; omega
                intro v' w8 hown8 hgrow8
                have HO8 := Lib.hid (OwnT.app hown8)
                have hkb : KB (fun b => u14.ownBlock = some b) wq w8 := KB.of_grown hgrow8 (fun b hb => hb)
                have HV8 := Lib.hid (HVQ.out.kb hkb (fun b hb hc => by
                  have h1 := (HAQ.out.lt b hc).1
                  have h2 := (HVX5.out b hb).1
                  omega))
                have HW8 := Lib.hid (HWQ.out.kb hkb (fun b hb hc => by
                  have h1 := (HAQ.out.lt b hc).1
                  have h2 := HWX.out b hb
                  omega))
                have HB8 := Lib.hid (below_kb HBQ.out hkb (fun b hb => by
                  have h1 := (HAQ.out.lt b hb).1
                  have h2 := HXB.out
                  omega))
                have HX8 : Hid (X ≤ w8.heap.size) := Lib.hid (Nat.le_trans HXQ.out hgrow8.size)
                clear hown8 hgrow8 hkb
                go_wp2_with fail
                go_roundg (ts.length - (i + 1))
                case measure => omega
                case rel => exact ⟨i + 1, M, v5, A ++ R, by go_num, rfl, by omega, by omega, by have := HM.out; omega, by have := HM.out; push_cast; omega, HV8, HS5, Lib.hid ⟨HO8.out, HD5.out⟩, HW8, HVX5, HB8, HX8⟩
          · have hltz : ¬ (i : Int) < (ts.length : Int) := by omega
            obtain rfl : i = ts.length := by omega
            have HT := Lib.hid (tick_ok w.heap.size g' m' vs' 0 most _ wi HW.out HS.out (by omega) (by omega))
            have HLEN : Hid (A.length + (restF S most).length = at_.length) := Lib.hid (by rw [due_len HA.out.2]; exact HSN.out)
            go_wp2_with fail
            refine HT.out.mono ?_
            rintro e w5 ⟨v, R, v5, rfl, hR, hown, hk5, hw5, ho5⟩
            obtain rfl : R = A := due_one R A hR.1 HA.out.2.1 (fun x => (hR.2 x).trans (HA.out.2.2 x).symm)
            have HB5 := Lib.hid (below_kb HB.out hk5 HWV.out)
            have HA5 : Hid (OwnT w5 X u14 R) := Lib.hid (own_kb HA.out.1 hk5 (fun b hb hc => by
              have h1 := (HA.out.1.lt b hb).1
              have h2 := HWX.out b hc
              omega))
            have HL1 := Lib.hid (len_any w.heap.size g' m' v5 most _ w5 hw5)
            have HL2 := Lib.hid (len_any w.heap.size g m vv most _ w5 (HV.out.kb hk5 (fun b hb hc => (HVX.out b hb).2 hc)))
            have HT1 := Lib.hid (hown.tms)
            have HT2 := Lib.hid (HA5.out.tms)
            obtain ⟨Al, capl, hv⟩ := hown.slice
            subst hv
            obtain ⟨Aa', capa', hv⟩ := HA5.out.slice
            subst hv
            obtain ⟨r, HRR⟩ : ∃ r, Hid (r = (restF S most).length) := ⟨_, Lib.hid rfl⟩
            rw [← HRR.out] at HL1 HL2 HLEN
            have hsum : IntKind.i64.wrap ((R.length : Int) + (r : Int)) = (at_.length : Int) := by have := HLEN.out; rw [IntKind.wrap_i64]; omega
            clear hR hown hk5 hw5 ho5
            go_wp2_with (first | (go_at_call 12; first | (refine HL1.out.mono ?_; rintro e w6 ⟨rfl, rfl⟩) | (refine HL2.out.mono ?_; rintro e w6 ⟨rfl, rfl⟩)) | fail)
            go_loopg [21] R.length (fun ky s21 wr => ∃ (k q : Nat), s21 = .int .i64 (k : Int) ∧ wr = w6.drewN q ∧ k ≤ R.length ∧ R.length - k ≤ ky)
            case atStart => exact ⟨0, 0, rfl, rfl, Nat.zero_le _, by omega⟩
            case round =>
              obtain ⟨k, q, hs21, hwr, hk, hky⟩ := hrel
              subst hs21
              subst hwr
              by_cases hkl : k < R.length
              · have hklz : (k : Int) < (R.length : Int) := by omega
                have hx := List.getElem?_eq_getElem hkl
                obtain ⟨A0, cap0, hsl, hcap, hcells⟩ := HT1.out
                injection hsl with hs1 hs2 hs3
                subst hs1; subst hs3
                obtain ⟨b2, o2, rfl, hbl2, ⟨d0, d1, d2⟩⟩ := hcells k _ hx
                obtain ⟨A1, cap1, hsl, hcap1, hcells1⟩ := HT2.out
                injection hsl with hs1 hs4 hs3
                subst hs1; subst hs3
                obtain ⟨b3, o3, rfl, hbl3, ⟨e0, e1, e2⟩⟩ := hcells1 k _ hx
                generalize R[k] = t at d0 d1 d2 e0 e1 e2
                obtain ⟨t0, t1, t2⟩ := t
                simp only at d0 d1 d2 e0 e1 e2
                have hneq := neq_tm t0 t1 t2
                have wk1 : IntKind.i64.wrap ((k : Int) + 1) = (k : Int) + 1 := by have := HA50.out; rw [IntKind.wrap_i64]; omega
                clear hx hcells hcells1 hs2 hs4 hcap hcap1 hbl2 hbl3
                go_wp2_with fail
                go_quiet (fail)
                go_wp2_with fail
                go_roundg (R.length - (k + 1))
                case measure => omega
                case rel => exact ⟨k + 1, q + nq, by go_num, rfl, by omega, by omega⟩
              · have hklz : ¬ (k : Int) < (R.length : Int) := by omega
                obtain rfl : k = R.length := by omega
                go_wp2_with fail
                go_ret
                exact ⟨rfl, HB5.out.trans (below_drewN (Below.refl _ _) q)⟩
end Go.Proofs.Ytlfiijlfokckkaa
