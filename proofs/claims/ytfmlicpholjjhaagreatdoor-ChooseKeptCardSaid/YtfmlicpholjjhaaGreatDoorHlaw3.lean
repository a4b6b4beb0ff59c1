/- The walk of the law ChooseKept: true for any chart, any set, any variables and any event. -/
import Derived.Test.YtfmlicpholjjhaaGreatDoorHup
import Derived.Test.YtfmlicpholjjhaaGreatDoorHsi
import Derived.Test.YtfmlicpholjjhaaGreatDoorHlaw1
namespace Go.Proofs.YtfmlicpholjjhaaGreatDoor
open Go.ChangeShapes Go.WideShapes Go.ChangeAt Go.RowKit
set_option linter.unusedVariables false

/-- what is kept of those gathered: each is ready, and was gathered; no two clash, none is there twice -/
theorem kept_facts (C : Ch) (env : List Int) (ev : Int) (n : Nat) {K : List Int} (hK : K = numsC (siL C (leftN C n) (gaL C env ev n).1)) :
    (∀ (i : Nat) (x : Int), K[i]? = some x → rdyL C env ev x = (true, false) ∧ (gaL C env ev n).1.contains x = true) ∧
    (∀ (i j : Nat) (x y : Int), j < i → K[i]? = some x → K[j]? = some y → (y == x) = false ∧ decide (leftN C n x &&& leftN C n y ≠ 0) = false) := by
  obtain ⟨hA, hM⟩ := siL_apt C (leftN C n) (gaL C env ev n).1
  generalize siL C (leftN C n) (gaL C env ev n).1 = S at *
  subst hK
  have hget : ∀ (i : Nat) (x : Int), (numsC S)[i]? = some x → ∃ c, S[i]? = some c ∧ c.num = x ∧ c ∈ S := fun i x h => by
    unfold numsC at h
    rw [List.getElem?_map] at h
    obtain ⟨c, h1, h2⟩ := Option.map_eq_some_iff.1 h
    exact ⟨c, h1, h2, List.mem_of_getElem? h1⟩
  refine ⟨fun i x hx => ?_, fun i j x y hij hx hy => ?_⟩
  · obtain ⟨c, _, rfl, hc⟩ := hget i x hx
    obtain ⟨_, h2, h3⟩ := hM c hc
    obtain ⟨h4, h5⟩ := gaL_ready C env ev n _ h2
    refine ⟨?_, by simpa using h2⟩
    unfold rdyL
    rw [if_pos h4]
    exact Prod.ext h5 (rdy_not env ev _ h5)
  · obtain ⟨c, hc, rfl, hcm⟩ := hget i x hx
    obtain ⟨d, hd, rfl, hdm⟩ := hget j y hy
    obtain ⟨hci, hce⟩ := List.getElem?_eq_some_iff.1 hc
    obtain ⟨hdj, hde⟩ := List.getElem?_eq_some_iff.1 hd
    have hp := List.pairwise_iff_getElem.1 hA j i hdj hci hij
    rw [hce, hde] at hp
    refine ⟨beq_false_of_ne hp.2, ?_⟩
    have h1 := (hM c hcm).1
    have h2 := (hM d hdm).1
    have hcl : c.left = leftN C n c.num := by rw [h1]; rfl
    have hdl : d.left = leftN C n d.num := by rw [h2]; rfl
    have h3 := hp.1
    rw [clB_comm] at h3
    unfold clB at h3
    rw [hcl, hdl] at h3
    exact h3
theorem kept_some (C : Ch) (env : List Int) (ev : Int) (n : Nat) (h : (gaL C env ev n).1.length ≠ 0) : 0 < (numsC (siL C (leftN C n) (gaL C env ev n).1)).length := by
  have := siL_full C (leftN C n) (l := (gaL C env ev n).1) (fun he => h (by rw [he]; rfl)) (fun i hi => (gaL_ready C env ev n i hi).1)
  unfold numsC
  rw [List.length_map]
  exact List.length_pos_iff.2 this
theorem kept_len (C : Ch) (env : List Int) (ev : Int) (n : Nat) : (numsC (siL C (leftN C n) (gaL C env ev n).1)).length ≤ (gaL C env ev n).1.length := by
  have := si_len C (leftN C n) (gaL C env ev n).1 []
  unfold numsC siL
  rw [List.length_map]
  simpa using this
/-- whether one of the first m has a Guard -/
def gdU (R : List Tr) (m : Nat) : Bool := (R.take m).any fun t => decide (t.guard.size ≠ 0)
theorem gdU_succ {R : List Tr} {m : Nat} (h : m < R.length) : gdU R (m + 1) = (gdU R m || decide ((trAt R (m : Int)).guard.size ≠ 0)) := by
  unfold gdU
  have := trAt_nat h
  rw [List.take_add_one, this, List.any_append]
  simp
theorem gdU_none {R : List Tr} (h : gdU R R.length = false) : ∀ t ∈ R, t.guard.size = 0 := by
  unfold gdU at h
  rw [List.take_length, List.any_eq_false] at h
  intro t ht
  simpa using h t ht
set_option maxHeartbeats 16000000 in
set_option maxRecDepth 100000 in
theorem hlaw3_any (vs vt ve : Value) (C : Ch) (n : Nat) (env : List Int) (ev : Int) (w : World) (hL : Laid w) (hC : ChHas w vs vt C) (hS : ShortCh C) (hn : n < 4294967296) (hE : NumsAt w ve env) (hes : Short env.length) (hef : ∀ x ∈ env, F64 x) :
    Calls Tryz.prog 5 #[.agg #[.int .i64 C.vars, vs, vt], .int .u32 (n : Int), ve, .int .i64 ev] w fun e w' => e = .returned (.bool true) ∧ Below w.heap.size w w' := by
  obtain ⟨sA, scap, tA, tcap, rfl, rfl⟩ := hC.slices
  have HL0 := Lib.hid (hL.after (below_box w (chBox C.vars (.slice sA C.sts.length scap) (.slice tA C.trs.length tcap))))
  have HLW := Lib.hid (fun (W : World) (h : Below (w.alloc (chBox C.vars (.slice sA C.sts.length scap) (.slice tA C.trs.length tcap))).heap.size (w.alloc (chBox C.vars (.slice sA C.sts.length scap) (.slice tA C.trs.length tcap))) W) => hL.after (below_boxed h))
  have HF := Lib.hid (fun (W : World) (h : Below (w.alloc (chBox C.vars (.slice sA C.sts.length scap) (.slice tA C.trs.length tcap))).heap.size (w.alloc (chBox C.vars (.slice sA C.sts.length scap) (.slice tA C.trs.length tcap))) W) => few_any C.vars (.slice sA C.sts.length scap) (.slice tA C.trs.length tcap) C W (hC.below (below_boxed h)) hS)
  have HC := Lib.hid hC
  have HCH := Lib.hid (fun (W : World) (hF : fewB C = true) (h : Below (w.alloc (chBox C.vars (.slice sA C.sts.length scap) (.slice tA C.trs.length tcap))).heap.size (w.alloc (chBox C.vars (.slice sA C.sts.length scap) (.slice tA C.trs.length tcap))) W) => new_any (.slice sA C.sts.length scap) (.slice tA C.trs.length tcap) C W (hL.after (below_boxed h)) (hC.below (below_boxed h)) hF)
  have HE := Lib.hid hE
  obtain ⟨eA, ecap, rfl, hec, _⟩ := hE
  have HEF := Lib.hid hef
  unfold Short at hes
  have hnn := neq_nil_nil
  have hnc := fun p W => neq_code_any p W
  have hns := fun p W => neq_spot_any p W
  clear hL hC hS hef
  cases hf : fewB C with
  | false =>
    have HFF := Lib.hid hf
    clear hf
    go_enter Tryz.func5, Tryz.ntmps5
    go_wp2_with fail
    refine (upH_any _ HL0.out).mono ?_
    rintro e w1 ⟨rfl, hb1⟩
    obtain ⟨x0, x1, x2⟩ := box_later hb1
    have HB1 := Lib.hid hb1
    clear hb1
    go_wp2_with fail
    refine (HF.out _ HB1.out).mono ?_
    rintro e w2 ⟨rfl, hb2⟩
    have hB2 := HB1.out.trans (hb2.mono HB1.out.size)
    clear x0 x1 x2
    obtain ⟨x0, x1, x2⟩ := box_later hB2
    have HB2 := Lib.hid hB2
    rw [HFF.out]
    clear hb2 hB2
    go_wp2_with fail
    go_ret
    exact ⟨rfl, below_boxed HB2.out⟩
  | true =>
    have HFF := Lib.hid hf
    clear hf
    by_cases h40 : 40 < env.length
    · have h40b : decide ((40 : Int) < (env.length : Int)) = true := by simp; omega
      go_enter Tryz.func5, Tryz.ntmps5
      go_wp2_with fail
      refine (upH_any _ HL0.out).mono ?_
      rintro e w1 ⟨rfl, hb1⟩
      obtain ⟨x0, x1, x2⟩ := box_later hb1
      have HB1 := Lib.hid hb1
      clear hb1
      go_wp2_with fail
      refine (HF.out _ HB1.out).mono ?_
      rintro e w2 ⟨rfl, hb2⟩
      have hB2 := HB1.out.trans (hb2.mono HB1.out.size)
      clear x0 x1 x2
      obtain ⟨x0, x1, x2⟩ := box_later hB2
      have HB2 := Lib.hid hB2
      rw [HFF.out]
      clear hb2 hB2
      go_wp2_with fail
      go_ret
      exact ⟨rfl, below_boxed HB2.out⟩
    · have h40b : decide ((40 : Int) < (env.length : Int)) = false := by simp; omega
      have HCK := Lib.hid (fun (W : World) h => HCH.out W HFF.out h)
      by_cases hok : chk hasTB C = .ok
      · have HOK := Lib.hid hok
        have hta := tame_of hok
        have hlen := hta.len
        have HTA := Lib.hid hta
        have HRT := Lib.hid (rooted_of hok)
        clear hok hta

        go_enter Tryz.func5, Tryz.ntmps5
        go_wp2_with fail
        refine (upH_any _ HL0.out).mono ?_
        rintro e w1 ⟨rfl, hb1⟩
        obtain ⟨x0, x1, x2⟩ := box_later hb1
        have HB1 := Lib.hid hb1
        clear hb1
        go_wp2_with fail
        refine (HF.out _ HB1.out).mono ?_
        rintro e w2 ⟨rfl, hb2⟩
        have hB2 := HB1.out.trans (hb2.mono HB1.out.size)
        clear x0 x1 x2
        obtain ⟨x0, x1, x2⟩ := box_later hB2
        have HB2 := Lib.hid hB2
        rw [HFF.out]
        clear hb2 hB2

        go_wp2_with fail
        refine (HCK.out _ HB2.out).mono ?_
        intro e w3 hp
        obtain ⟨hb3, t, rfl, ht, hT⟩ := npost_yes hp HOK.out
        have HB3 := Lib.hid (HB2.out.trans (hb3.mono HB2.out.size))
        have HT := Lib.hid hT
        clear hb3 hp hT ht x0 x1 x2
        obtain ⟨x0, x1, x2⟩ := box_later HB3.out
        have HGL := Lib.hid (gaL_len HTA.out env ev n)
        have HKL := Lib.hid (kept_len C env ev n)
        have HKS := Lib.hid (kept_some C env ev n)
        obtain ⟨K, hK⟩ : ∃ K, K = numsC (siL C (leftN C n) (gaL C env ev n).1) := ⟨_, rfl⟩
        have HKF := Lib.hid (kept_facts C env ev n hK)
        have HNON : Hid (gdU C.trs C.trs.length = false → (((gaL C env ev n).2 : Int) == 0) = true) := Lib.hid fun h => by rw [gaL_none C env ev n (gdU_none h)]; rfl
        rw [← hK] at HKL HKS
        have hl60 : C.trs.length ≤ 60 := (few_parts HFF.out).2.1
        have HRD := Lib.hid (fun (W : World) (h : Below w3.heap.size w3 W) (x : Int) => ready_any t (.slice eA env.length ecap) x ev C env W (HLW.out _ (HB3.out.trans (h.mono HB3.out.size))) (HT.out.below h) HFF.out (HE.out.below (below_boxed (HB3.out.trans (h.mono HB3.out.size)))) (by omega) HEF.out)
        have HSI := Lib.hid (fun (W : World) (h : Below w3.heap.size w3 W) (vl : Value) (hv : ListAt W vl (gaL C env ev n).1) => sift_any t n vl (gaL C env ev n).1 C W (HT.out.below h) HFF.out HTA.out HRT.out hn hv (by have := gaL_len HTA.out env ev n; omega))
        rw [← hK] at HSI
        have HCLA := Lib.hid (fun (W : World) (h : Below w3.heap.size w3 W) (i k : Int) => lclash_any t n i k C W (HT.out.below h) HFF.out HTA.out HRT.out hn)
        clear hK
        go_wp2_with fail
        refine (gather_any t n _ ev C env _ (HLW.out _ HB3.out) HT.out HFF.out HTA.out HRT.out hn (HE.out.below (below_boxed HB3.out)) (by omega) HEF.out).mono ?_
        rintro e w4 ⟨hb4, v4, rfl, ho4⟩
        have HB34 := Lib.hid hb4
        have HO4 := Lib.hid (list_of_own ho4)
        obtain ⟨L, hLe⟩ : ∃ L, L = (gaL C env ev n).1 := ⟨_, rfl⟩
        obtain ⟨q, hqe⟩ : ∃ q, q = (gaL C env ev n).2 := ⟨_, rfl⟩
        rw [← hLe] at HO4 HSI HKF HKL HKS HGL
        rw [← hqe] at HNON ⊢
        clear hb4 ho4 hLe hqe x0 x1 x2
        go_wp2_with fail
        refine (HSI.out w4 HB34.out _ HO4.out).mono ?_
        rintro e w5 ⟨hb5, v5, rfl, ho5⟩
        have HB35 := Lib.hid (HB34.out.trans (hb5.mono HB34.out.size))
        obtain ⟨lA, lcap, rfl, hlc, hle⟩ := HO4.out.below hb5
        obtain ⟨kA, kcap, rfl, hkc, hke⟩ := list_of_own ho5
        have HLE := Lib.hid hle
        have HKE := Lib.hid hke
        have hLl := HGL.out
        have hKl : K.length ≤ 24 := Nat.le_trans HKL.out HGL.out
        have HBW := Lib.hid (fun (W : World) (h : Below w5.heap.size w5 W) => HB35.out.trans (h.mono HB35.out.size))
        clear hb5 ho5 hle hke HO4
        go_wp2_with fail
        go_loopw [16] (fun iv wr => ∃ i : Nat, i ≤ K.length ∧ iv = .int .i64 (i : Int) ∧ Below w5.heap.size w5 wr) (fun iv _ => K.length - (intOf iv).toNat)
        case atStart => exact ⟨0, Nat.zero_le _, rfl, Below.refl _ _⟩
        case round =>
          obtain ⟨i, hi, rfl, hb⟩ := hrel
          obtain ⟨wo, rfl⟩ : ∃ wo : World, wo = wr := ⟨_, rfl⟩
          have HB := Lib.hid hb
          by_cases hlt : i < K.length
          · have hx := List.getElem?_eq_getElem hlt
            obtain ⟨kb, ko, rfl, hkbl, hkc0⟩ := HKE.out i _ hx
            obtain ⟨hrd, hmem⟩ := HKF.out.1 i _ hx
            have HCL2 := Lib.hid (fun j y hj hy => HKF.out.2 i j _ y hj hx hy)
            generalize K[i] = x at *
            have c0 : wo.cell? ⟨kb, ko + i, none⟩ = some (.int .i64 x) := by have := IntAt.keeps w5 wo kb _ _ hb hkbl hkc0; rwa [Nat.mul_one] at this
            have HKI : Hid (∀ W, Below w5.heap.size w5 W → W.cell? ⟨kb, ko + i, none⟩ = some (.int .i64 x)) := Lib.hid fun W h => by have := IntAt.keeps w5 W kb _ _ h hkbl hkc0; rwa [Nat.mul_one] at this
            have HRX := Lib.hid (HRD.out wo (HBW.out _ HB.out) x)
            rw [hrd] at HRX
            have HMEM := Lib.hid hmem
            clear hb hx hkc0 hrd hmem
            go_wp2_with fail
            refine HRX.out.mono ?_
            rintro e w6 ⟨rfl, hb6⟩
            have HB6 := Lib.hid (HB.out.trans (hb6.mono HB.out.size))
            clear hb6 c0
            go_wp2_with fail
            go_loopw [19, 20] (fun mv jv wr => ∃ j : Nat, j ≤ L.length ∧ jv = .int .i64 (j : Int) ∧ mv = .bool ((L.take j).contains x) ∧ Below w5.heap.size w5 wr) (fun _ jv _ => L.length - (intOf jv).toNat)
            case atStart => exact ⟨0, Nat.zero_le _, rfl, by simp, HB6.out⟩
            case round =>
              obtain ⟨j, hj, rfl, rfl, hb⟩ := hrel
              obtain ⟨wp, rfl⟩ : ∃ wp : World, wp = wr := ⟨_, rfl⟩
              have HBP := Lib.hid hb
              by_cases hlt2 : j < L.length
              · obtain ⟨lb, lo, rfl, hlbl, hlc0⟩ := HLE.out j _ (List.getElem?_eq_getElem hlt2)
                have c0 : wp.cell? ⟨lb, lo + j, none⟩ = some (.int .i64 L[j]) := by have := IntAt.keeps w5 wp lb _ _ hb hlbl hlc0; rwa [Nat.mul_one] at this
                have c1 := HKI.out wp hb
                have HTH := Lib.hid (take_has L x hlt2)
                generalize L[j] = z at *
                obtain ⟨B', hB'⟩ : ∃ B', (L.take (j + 1)).contains x = B' := ⟨_, rfl⟩
                rw [hB'] at HTH
                have HB' := Lib.hid hB'
                generalize (L.take j).contains x = B at *
                clear hB' hb hlc0
                cases B with
                | true =>
                  have HN : Hid (B' = true) := Lib.hid (by rw [HTH.out]; rfl)
                  clear HTH
                  go_wp2_with fail
                  go_quiet (fail)
                  go_wp2
                  go_roundw
                  case rel => exact ⟨j + 1, by omega, by go_num, by rw [HB'.out, HN.out], below_drewN HBP.out _⟩
                  case measure => simp [intOf]; omega
                | false =>
                  have HN : Hid (B' = (z == x)) := Lib.hid (by rw [HTH.out]; rfl)
                  clear HTH
                  go_wp2_with fail
                  go_quiet (fail)
                  go_wp2
                  go_roundw
                  case rel => exact ⟨j + 1, by omega, by go_num, by rw [HB'.out, HN.out], below_drewN HBP.out _⟩
                  case measure => simp [intOf]; omega
              · obtain rfl : j = L.length := by omega
                rw [List.take_length, HMEM.out]
                clear hb
                go_wp2_with fail
                go_loopw [21] (fun jv wr => ∃ j : Nat, j ≤ i ∧ jv = .int .i64 (j : Int) ∧ Below w5.heap.size w5 wr) (fun jv _ => i - (intOf jv).toNat)
                case atStart => exact ⟨0, Nat.zero_le _, rfl, HBP.out⟩
                case round =>
                  obtain ⟨j, hj, rfl, hb⟩ := hrel
                  obtain ⟨wq, rfl⟩ : ∃ wq : World, wq = wr := ⟨_, rfl⟩
                  have HBQ := Lib.hid hb
                  by_cases hlt3 : j < i
                  · have hy := List.getElem?_eq_getElem (show j < K.length by omega)
                    obtain ⟨hne, hcf⟩ := HCL2.out j _ hlt3 hy
                    obtain ⟨kb', ko', hkk, hkbl', hkc0'⟩ := HKE.out j _ hy
                    injection hkk with hkk
                    injection hkk with e1 e2
                    subst e1; subst e2
                    generalize K[j]'(by omega) = y at *
                    have HKC : Hid (∀ W, Below w5.heap.size w5 W → W.cell? ⟨kb, ko + i, none⟩ = some (.int .i64 x) ∧ W.cell? ⟨kb, ko + j, none⟩ = some (.int .i64 y)) := Lib.hid fun W h => ⟨HKI.out W h, by have := IntAt.keeps w5 W kb _ _ h hkbl' hkc0'; rwa [Nat.mul_one] at this⟩
                    have HCF := Lib.hid hcf
                    have HBD := Lib.hid hb.drew
                    have hjk : j < K.length := by omega
                    clear hb hy hcf hkc0'
                    go_wp2_with fail
                    refine anyD_start (fun W => W.cell? ⟨kb, ko + i, none⟩ = some (.int .i64 x) ∧ W.cell? ⟨kb, ko + j, none⟩ = some (.int .i64 y)) (fun i => [].contains i) (by kernel_rfl) ?_
                    refine anyD_take (i := 0) (v := .slice (some ⟨kb, ko, none⟩) K.length kcap) rfl (by kernel_rfl) (by kernel_rfl) (by kernel_rfl) (fun _ _ _ h => h) (Or.inl ⟨by kernel_rfl, fun w => by go_simp⟩) ?_
                    try simp only [Act.put, List.setIfInBounds_toArray, List.set_cons_zero, List.set_cons_succ, List.getElem_toArray, List.getElem_cons_zero]
                    refine anyD_take (i := 1) (v := .int .i64 (j : Int)) rfl (by kernel_rfl) (by kernel_rfl) (by kernel_rfl) (fun _ _ _ h => h) (Or.inl ⟨by kernel_rfl, fun w => by go_simp⟩) ?_
                    try simp only [Act.put, List.setIfInBounds_toArray, List.set_cons_zero, List.set_cons_succ, List.getElem_toArray, List.getElem_cons_zero, List.getElem_cons_succ]
                    refine anyD_take (i := 2) (v := .pointer (some ⟨kb, ko + j, none⟩)) rfl (by kernel_rfl) (by kernel_rfl) (by kernel_rfl) (fun _ _ _ h => h) (Or.inl ⟨by kernel_rfl, fun w => by go_simp⟩) ?_
                    try simp only [Act.put, List.setIfInBounds_toArray, List.set_cons_zero, List.set_cons_succ, List.getElem_toArray, List.getElem_cons_zero, List.getElem_cons_succ]
                    refine anyD_load (i := 3) (v := .int .i64 y) rfl (by kernel_rfl) (by kernel_rfl) (by kernel_rfl) (by kernel_rfl) (fun _ _ _ h => h) (Or.inl ⟨by kernel_rfl, fun w hS => by obtain ⟨c0, c1⟩ := hS; go_simp⟩) (HKC.out _ HBD.out) ?_
                    try simp only [Act.put, List.setIfInBounds_toArray, List.set_cons_zero, List.set_cons_succ, List.getElem_toArray, List.getElem_cons_zero, List.getElem_cons_succ]
                    refine anyD_take (i := 4) (v := .slice (some ⟨kb, ko, none⟩) K.length kcap) rfl (by kernel_rfl) (by kernel_rfl) (by kernel_rfl) (fun _ _ _ h => h) (Or.inl ⟨by kernel_rfl, fun w => by go_simp⟩) ?_
                    try simp only [Act.put, List.setIfInBounds_toArray, List.set_cons_zero, List.set_cons_succ, List.getElem_toArray, List.getElem_cons_zero, List.getElem_cons_succ]
                    refine anyD_take (i := 5) (v := .int .i64 (i : Int)) rfl (by kernel_rfl) (by kernel_rfl) (by kernel_rfl) (fun _ _ _ h => h) (Or.inl ⟨by kernel_rfl, fun w => by go_simp⟩) ?_
                    try simp only [Act.put, List.setIfInBounds_toArray, List.set_cons_zero, List.set_cons_succ, List.getElem_toArray, List.getElem_cons_zero, List.getElem_cons_succ]
                    refine anyD_take (i := 6) (v := .pointer (some ⟨kb, ko + i, none⟩)) rfl (by kernel_rfl) (by kernel_rfl) (by kernel_rfl) (fun _ _ _ h => h) (Or.inl ⟨by kernel_rfl, fun w => by go_simp⟩) ?_
                    try simp only [Act.put, List.setIfInBounds_toArray, List.set_cons_zero, List.set_cons_succ, List.getElem_toArray, List.getElem_cons_zero, List.getElem_cons_succ]
                    refine anyD_load (i := 7) (v := .int .i64 x) rfl (by kernel_rfl) (by kernel_rfl) (by kernel_rfl) (by kernel_rfl) (fun _ _ _ h => h) (Or.inl ⟨by kernel_rfl, fun w hS => by obtain ⟨c0, c1⟩ := hS; go_simp⟩) (HKC.out _ HBD.out) ?_
                    try simp only [Act.put, List.setIfInBounds_toArray, List.set_cons_zero, List.set_cons_succ, List.getElem_toArray, List.getElem_cons_zero, List.getElem_cons_succ]
                    refine anyD_take (i := 8) (v := .bool false) rfl (by kernel_rfl) (by kernel_rfl) (by kernel_rfl) (fun _ _ _ h => h) (Or.inl ⟨by kernel_rfl, fun w => by go_simp⟩) ?_
                    try simp only [Act.put, List.setIfInBounds_toArray, List.set_cons_zero, List.set_cons_succ, List.getElem_toArray, List.getElem_cons_zero, List.getElem_cons_succ]
                    refine anyD_take (i := 9) (v := .bool false) rfl (by kernel_rfl) (by kernel_rfl) (by kernel_rfl) (fun _ _ _ h => h) (Or.inl ⟨by kernel_rfl, fun w => by go_simp⟩) ?_
                    try simp only [Act.put, List.setIfInBounds_toArray, List.set_cons_zero, List.set_cons_succ, List.getElem_toArray, List.getElem_cons_zero, List.getElem_cons_succ]
                    refine anyD_take (i := 10) (v := .pointer (some ⟨t, 0, none⟩)) rfl (by kernel_rfl) (by kernel_rfl) (by kernel_rfl) (fun _ _ _ h => h) (Or.inl ⟨by kernel_rfl, fun w => by go_simp⟩) ?_
                    try simp only [Act.put, List.setIfInBounds_toArray, List.set_cons_zero, List.set_cons_succ, List.getElem_toArray, List.getElem_cons_zero, List.getElem_cons_succ]
                    refine anyD_take (i := 11) (v := .int .u32 (n : Int)) rfl (by kernel_rfl) (by kernel_rfl) (by kernel_rfl) (fun _ _ _ h => h) (Or.inl ⟨by kernel_rfl, fun w => by go_simp⟩) ?_
                    try simp only [Act.put, List.setIfInBounds_toArray, List.set_cons_zero, List.set_cons_succ, List.getElem_toArray, List.getElem_cons_zero, List.getElem_cons_succ]
                    refine anyD_take (i := 12) (v := .slice (some ⟨kb, ko, none⟩) K.length kcap) rfl (by kernel_rfl) (by kernel_rfl) (by kernel_rfl) (fun _ _ _ h => h) (Or.inl ⟨by kernel_rfl, fun w => by go_simp⟩) ?_
                    try simp only [Act.put, List.setIfInBounds_toArray, List.set_cons_zero, List.set_cons_succ, List.getElem_toArray, List.getElem_cons_zero, List.getElem_cons_succ]
                    refine anyD_take (i := 13) (v := .int .i64 (i : Int)) rfl (by kernel_rfl) (by kernel_rfl) (by kernel_rfl) (fun _ _ _ h => h) (Or.inl ⟨by kernel_rfl, fun w => by go_simp⟩) ?_
                    try simp only [Act.put, List.setIfInBounds_toArray, List.set_cons_zero, List.set_cons_succ, List.getElem_toArray, List.getElem_cons_zero, List.getElem_cons_succ]
                    refine anyD_take (i := 14) (v := .pointer (some ⟨kb, ko + i, none⟩)) rfl (by kernel_rfl) (by kernel_rfl) (by kernel_rfl) (fun _ _ _ h => h) (Or.inl ⟨by kernel_rfl, fun w => by go_simp⟩) ?_
                    try simp only [Act.put, List.setIfInBounds_toArray, List.set_cons_zero, List.set_cons_succ, List.getElem_toArray, List.getElem_cons_zero, List.getElem_cons_succ]
                    refine anyD_load (i := 15) (v := .int .i64 x) rfl (by kernel_rfl) (by kernel_rfl) (by kernel_rfl) (by kernel_rfl) (fun _ _ _ h => h) (Or.inl ⟨by kernel_rfl, fun w hS => by obtain ⟨c0, c1⟩ := hS; go_simp⟩) (HKC.out _ HBD.out) ?_
                    try simp only [Act.put, List.setIfInBounds_toArray, List.set_cons_zero, List.set_cons_succ, List.getElem_toArray, List.getElem_cons_zero, List.getElem_cons_succ]
                    refine anyD_take (i := 16) (v := .slice (some ⟨kb, ko, none⟩) K.length kcap) rfl (by kernel_rfl) (by kernel_rfl) (by kernel_rfl) (fun _ _ _ h => h) (Or.inl ⟨by kernel_rfl, fun w => by go_simp⟩) ?_
                    try simp only [Act.put, List.setIfInBounds_toArray, List.set_cons_zero, List.set_cons_succ, List.getElem_toArray, List.getElem_cons_zero, List.getElem_cons_succ]
                    refine anyD_take (i := 17) (v := .int .i64 (j : Int)) rfl (by kernel_rfl) (by kernel_rfl) (by kernel_rfl) (fun _ _ _ h => h) (Or.inl ⟨by kernel_rfl, fun w => by go_simp⟩) ?_
                    try simp only [Act.put, List.setIfInBounds_toArray, List.set_cons_zero, List.set_cons_succ, List.getElem_toArray, List.getElem_cons_zero, List.getElem_cons_succ]
                    refine anyD_take (i := 18) (v := .pointer (some ⟨kb, ko + j, none⟩)) rfl (by kernel_rfl) (by kernel_rfl) (by kernel_rfl) (fun _ _ _ h => h) (Or.inl ⟨by kernel_rfl, fun w => by go_simp⟩) ?_
                    try simp only [Act.put, List.setIfInBounds_toArray, List.set_cons_zero, List.set_cons_succ, List.getElem_toArray, List.getElem_cons_zero, List.getElem_cons_succ]
                    refine anyD_load (i := 19) (v := .int .i64 y) rfl (by kernel_rfl) (by kernel_rfl) (by kernel_rfl) (by kernel_rfl) (fun _ _ _ h => h) (Or.inl ⟨by kernel_rfl, fun w hS => by obtain ⟨c0, c1⟩ := hS; go_simp⟩) (HKC.out _ HBD.out) ?_
                    try simp only [Act.put, List.setIfInBounds_toArray, List.set_cons_zero, List.set_cons_succ, List.getElem_toArray, List.getElem_cons_zero, List.getElem_cons_succ]
                    refine anyD_only (i := 20) rfl (by kernel_rfl) (by kernel_rfl) (fun K HK => ?_)
                    go_simp
                    refine (HCLA.out _ (HBW.out _ HBD.out) x y).mono ?_
                    rintro e w9 ⟨rfl, hb9⟩
                    rw [HCF.out]
                    have HB9 := Lib.hid (HBD.out.trans (hb9.mono HBD.out.size))
                    clear hb9
                    go_simp
                    refine HK.out _ _ (fun _ hS => HKC.out _ HB9.out) ?_
                    clear HK K
                    try simp only [Act.put, List.setIfInBounds_toArray, List.set_cons_zero, List.set_cons_succ, List.getElem_toArray, List.getElem_cons_zero, List.getElem_cons_succ]
                    refine anyD_take (i := 21) (v := .bool false) rfl (by kernel_rfl) (by kernel_rfl) (by kernel_rfl) (fun _ _ _ h => h) (Or.inl ⟨by kernel_rfl, fun w => by go_simp⟩) ?_
                    try simp only [Act.put, List.setIfInBounds_toArray, List.set_cons_zero, List.set_cons_succ, List.getElem_toArray, List.getElem_cons_zero, List.getElem_cons_succ]
                    refine anyD_done (by kernel_rfl) ?_
                    go_wp2_with fail
                    go_roundw
                    case rel => exact ⟨j + 1, by omega, by go_num, HB9.out⟩
                    case measure => simp [intOf]; omega
                  · obtain rfl : j = i := by omega
                    clear hb
                    go_wp2_with fail
                    go_roundw
                    case rel => exact ⟨j + 1, by omega, by go_num, HBQ.out⟩
                    case measure => simp [intOf]; omega
          · obtain rfl : i = K.length := by omega
            obtain ⟨wf, rfl⟩ : ∃ wf : World, wf = wo := ⟨_, rfl⟩
            have HB0F := Lib.hid (HB3.out.trans ((HBW.out _ HB.out).mono HB3.out.size))
            have HBF := Lib.hid (below_boxed HB0F.out)
            obtain ⟨x0, x1, x2⟩ := box_later HB0F.out
            clear hb
            go_wp2_with fail
            go_loopw [22, 23] (fun gv mv wr => ∃ m : Nat, m ≤ C.trs.length ∧ mv = .int .i64 (m : Int) ∧ gv = .bool (gdU C.trs m) ∧ wr = wf) (fun _ mv _ => C.trs.length - (intOf mv).toNat)
            case atStart => exact ⟨0, Nat.zero_le _, rfl, rfl, rfl⟩
            case round =>
              obtain ⟨m, hm, rfl, rfl, rfl⟩ := hrel
              by_cases hlt : m < C.trs.length
              · obtain ⟨b, o, cap2, wt, wa, hsl, _, hbl, hst, _⟩ := HC.out.tra hlt
                injection hsl with e1 _ e3
                subst e1; subst e3
                have c2 := (hst.below (HBF.out) hbl).2.2.1
                have HGU := Lib.hid (gdU_succ hlt)
                generalize (trAt C.trs (m : Int)).guard = gd at *
                have hz := size_toList gd
                obtain ⟨G', hG'⟩ : ∃ G', gdU C.trs (m + 1) = G' := ⟨_, rfl⟩
                rw [hG'] at HGU
                have HG' := Lib.hid hG'
                clear hG'
                generalize gdU C.trs m = G at *
                clear hst
                cases G with
                | true =>
                  clear hz
                  have HGT : Hid (G' = true) := Lib.hid (by rw [HGU.out]; rfl)
                  go_wp2_with fail
                  go_roundw
                  case rel => exact ⟨m + 1, by omega, by go_num, by rw [HG'.out, HGT.out], trivial⟩
                  case measure => simp [intOf]; omega
                | false =>
                  by_cases h0 : gd.size = 0
                  · have HGT : Hid (G' = false) := Lib.hid (by rw [HGU.out]; simp [h0])
                    rw [show decide (gd.size = 0) = true by simpa using h0] at hz
                    have hz2 : (!gd.toList.isEmpty) = false := by rw [hz]; rfl
                    have hz3 : gd.toList = [] := by simpa using hz
                    clear h0
                    go_wp2_with fail
                    go_roundw
                    case rel => exact ⟨m + 1, by omega, by go_num, by rw [HG'.out, HGT.out], trivial⟩
                    case measure => simp [intOf]; omega
                  · have HGT : Hid (G' = true) := Lib.hid (by rw [HGU.out]; simp [h0])
                    rw [show decide (gd.size = 0) = false by simpa using h0] at hz
                    have hz2 : (!gd.toList.isEmpty) = true := by rw [hz]; rfl
                    have hz3 : ¬ gd.toList = [] := by intro h; rw [h] at hz; cases hz
                    clear h0
                    go_wp2_with fail
                    go_roundw
                    case rel => exact ⟨m + 1, by omega, by go_num, by rw [HG'.out, HGT.out], trivial⟩
                    case measure => simp [intOf]; omega
              · obtain rfl : m = C.trs.length := by omega
                have HNO := HNON.out
                generalize gdU C.trs C.trs.length = G at *
                by_cases hl0 : L.length = 0
                · have hl0b : ((L.length : Int) == 0) = true := by rw [hl0]; rfl
                  clear hl0
                  cases G with
                  | true =>
                    clear HNO
                    go_wp2_with fail
                    go_ret
                    exact ⟨rfl, HBF.out⟩
                  | false =>
                    have hq0 := HNO rfl
                    clear HNO
                    go_wp2_with fail
                    go_ret
                    exact ⟨rfl, HBF.out⟩
                · have hl0b : ((L.length : Int) == 0) = false := beq_false_of_ne (by omega)
                  have hkp := HKS.out hl0
                  have hkpb : decide (0 < (K.length : Int)) = true := by simp; omega
                  clear hl0
                  cases G with
                  | true =>
                    clear HNO
                    go_wp2_with fail
                    go_ret
                    exact ⟨rfl, HBF.out⟩
                  | false =>
                    have hq0 := HNO rfl
                    clear HNO
                    go_wp2_with fail
                    go_ret
                    exact ⟨rfl, HBF.out⟩
      · have HOK := Lib.hid hok
        clear hok
        go_enter Tryz.func5, Tryz.ntmps5
        go_wp2_with fail
        refine (upH_any _ HL0.out).mono ?_
        rintro e w1 ⟨rfl, hb1⟩
        obtain ⟨x0, x1, x2⟩ := box_later hb1
        have HB1 := Lib.hid hb1
        clear hb1
        go_wp2_with fail
        refine (HF.out _ HB1.out).mono ?_
        rintro e w2 ⟨rfl, hb2⟩
        have hB2 := HB1.out.trans (hb2.mono HB1.out.size)
        clear x0 x1 x2
        obtain ⟨x0, x1, x2⟩ := box_later hB2
        have HB2 := Lib.hid hB2
        rw [HFF.out]
        clear hb2 hB2
        go_wp2_with fail
        refine (HCK.out _ HB2.out).mono ?_
        intro e w3 hp
        obtain ⟨hb3, hv⟩ := npost_no hp HOK.out
        have HB3 := Lib.hid (HB2.out.trans (hb3.mono HB2.out.size))
        clear hb3 hp x0 x1 x2
        rcases hv with ⟨p, rfl⟩ | ⟨p, rfl⟩
        · go_wp2_with fail
          go_ret
          exact ⟨rfl, below_boxed HB3.out⟩
        · go_wp2_with fail
          go_ret
          exact ⟨rfl, below_boxed HB3.out⟩

end Go.Proofs.YtfmlicpholjjhaaGreatDoor
