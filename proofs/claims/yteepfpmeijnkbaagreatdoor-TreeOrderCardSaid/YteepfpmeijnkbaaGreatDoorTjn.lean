/- The contracts of the document's Has and Past, and of tree's allIn and Join. -/
import Derived.Test.YteepfpmeijnkbaaGreatDoorTbl
namespace Go.Proofs.YteepfpmeijnkbaaGreatDoor
open Go.ChangeShapes Go.WideShapes Go.ChangeAt Go.RowKit
set_option linter.unusedVariables false

theorem hasBit_any (n k : Nat) (hn : n < 2 ^ 32) (hk : k ≤ 1000) (w : World) : Calls Tryz.prog 12 #[.int .u32 (n : Int), .int .i64 (k : Int)] w fun e w' => e = .returned (.bool (decide (n / 2 ^ k % 2 = 1))) ∧ w = w' := by
  go_enter Tryz.func12, Tryz.ntmps12
  go_wp2_with fail
  go_loopw [0, 5] (fun v i wr => ∃ q : Nat, q ≤ k ∧ i = .int .i64 (q : Int) ∧ v = .int .u32 ((n / 2 ^ q : Nat) : Int) ∧ wr = w) (fun _ i _ => k - (intOf i).toNat)
  case atStart => exact ⟨0, Nat.zero_le _, rfl, by simp, rfl⟩
  case round =>
    obtain ⟨q, hq, rfl, rfl, rfl⟩ := hrel
    have hle : n / 2 ^ q < 4294967296 := Nat.lt_of_le_of_lt (Nat.div_le_self _ _) hn
    have hnext : n / 2 ^ q / 2 = n / 2 ^ (q + 1) := by rw [Nat.div_div_eq_div_mul, Nat.pow_succ]
    have hm : ∃ m, m = n / 2 ^ q := ⟨_, rfl⟩
    obtain ⟨m, hm⟩ := hm
    rw [← hm] at hle hnext ⊢
    have HNX := Lib.hid hnext
    have HM := Lib.hid hm
    clear hnext hm
    by_cases hlt : q < k
    · go_wp2_with fail
      go_roundw
      case rel => exact ⟨q + 1, by omega, by go_num, by rw [← HNX.out]; simp, trivial⟩
      case measure => simp [intOf]; omega
    · obtain rfl : q = k := by omega
      go_wp2_with fail
      go_ret
      exact ⟨ret_bool (by rw [← HM.out, Bool.eq_iff_iff]; simp; omega), rfl⟩
theorem past_any (vr : Int) (vs vt : Value) (C : Ch) (k : Nat) (w : World) (hC : ChHas w vs vt C) (hl : C.sts.length ≤ 1000) (hk : k < C.sts.length) :
    Calls Tryz.prog 11 #[.agg #[.int .i64 vr, vs, vt], .int .i64 (k : Int)] w fun e w' => e = .returned (.bool (histB (stAt C.sts (k : Int)).kind)) ∧ Below w.heap.size w w' := by
  have HB := Lib.hid (below_box w (chBox vr vs vt))
  obtain ⟨b, o, cap, vi, ve, vx, rfl, hcap, hlt, ⟨c0, c1, c2, c3, c4⟩, _⟩ := hC.st hk
  clear hC
  generalize (stAt C.sts (k : Int)).kind = K at *
  by_cases h : K = 5
  · subst h
    go_enter Tryz.func11, Tryz.ntmps11
    go_wp2_with fail
    try go_quiet (fail)
    try go_wp2_with fail
    go_ret
    exact ⟨rfl, HB.out⟩
  · have h2 : (K == 5) = false := by simpa using h
    go_enter Tryz.func11, Tryz.ntmps11
    go_wp2_with fail
    try go_quiet (fail)
    try go_wp2_with fail
    go_ret
    exact ⟨ret_bool (by unfold histB; simp [h]; rfl), HB.out⟩
set_option maxHeartbeats 1000000 in
theorem allIn_any (g : Nat) (s : Int) (v : Value) (L : List Int) (C : Ch) (w : World) (hT : TreeAt w g C) (hl : C.sts.length ≤ 1000) (hR : Rooted C.sts) (hv : ListAt w v L) (hL : Short L.length) :
    Calls Tryz.prog 22 #[.pointer (some ⟨g, 0, none⟩), v, .int .i64 s] w fun e w' => e = .returned (.bool (allU L.length fun i => cIn C.sts (L.getD i 0) s)) ∧ w = w' := by
  have HI := Lib.hid (fun (a : Int) => inT_any g a s C w hT hl hR)
  obtain ⟨A, cap, rfl, hcap, he⟩ := hv
  unfold Short at hL
  have HE := Lib.hid he
  have HBAD := Lib.hid (fun i hi h => allU_false (n := L.length) (f := fun i => cIn C.sts (L.getD i 0) s) i hi h)
  have HGOOD := Lib.hid (fun h => allU_true (n := L.length) (f := fun i => cIn C.sts (L.getD i 0) s) h)
  generalize (allU L.length fun i => cIn C.sts (L.getD i 0) s) = R at *
  clear he hT hR
  go_enter Tryz.func22, Tryz.ntmps22
  go_wp2_with fail
  go_loopw [11] (fun i wr => ∃ k : Nat, k ≤ L.length ∧ i = .int .i64 (k : Int) ∧ Hid (∀ j, j < k → cIn C.sts (L.getD j 0) s = true) ∧ wr = w) (fun i _ => L.length - (intOf i).toNat)
  case atStart => exact ⟨0, Nat.zero_le _, rfl, Lib.hid (fun j hj => absurd hj (Nat.not_lt_zero _)), rfl⟩
  case round =>
    obtain ⟨k, hk, rfl, HK, rfl⟩ := hrel
    by_cases hlt : k < L.length
    · obtain ⟨b, o, rfl, hbl, hc⟩ := HE.out k _ (List.getElem?_eq_getElem hlt)
      have c0 : wr.cell? ⟨b, o + k, none⟩ = some (.int .i64 L[k]) := by have := hc; unfold IntAt at this; rwa [Nat.mul_one] at this
      have hx : L.getD k 0 = L[k] := by simp [List.getD, List.getElem?_eq_getElem hlt]
      have HX := Lib.hid hx
      generalize L[k] = x at *
      clear hc hx
      cases hi : cIn C.sts x s with
      | false =>
        have HII := Lib.hid hi
        clear hi
        go_wp2_with fail
        refine (HI.out _).mono ?_
        rintro e w1 ⟨rfl, rfl⟩
        rw [HII.out]
        go_wp2_with fail
        go_ret
        exact ⟨ret_bool (HBAD.out k hlt (by rw [HX.out]; exact HII.out)).symm, rfl⟩
      | true =>
        have HII := Lib.hid hi
        clear hi
        go_wp2_with fail
        refine (HI.out _).mono ?_
        rintro e w1 ⟨rfl, rfl⟩
        rw [HII.out]
        go_wp2_with fail
        go_roundw
        case rel => exact ⟨k + 1, by omega, by go_num, Lib.hid (fun j hj => by
          by_cases hjk : j = k
          · subst hjk; rw [HX.out]; exact HII.out
          · exact HK.out j (by omega)), trivial⟩
        case measure => simp [intOf]; omega
    · obtain rfl : k = L.length := by omega
      go_wp2_with fail
      go_ret
      exact ⟨ret_bool (HGOOD.out HK.out).symm, rfl⟩
/-- what a row is joined in, from p on -/
def jnF (S : List St) (L : List Int) : Nat → Int → Int
  | 0, _ => -1
  | n + 1, p => if p < 0 then -1 else if (stAt S p).kind = 2 ∧ (allU L.length fun i => cIn S (L.getD i 0) p) = true then p else jnF S L n (cUp S p)
def jnT (S : List St) (L : List Int) : Int := if L.length = 0 then -1 else jnF S L ((L.getD 0 0).toNat + 1) (cUp S (L.getD 0 0))
theorem jnF_spec (S : List St) (L : List Int) : ∀ (n : Nat) (p : Int), p < (S.length : Int) → 0 ≤ jnF S L n p → isSt S (jnF S L n p) = true ∧ (stAt S (jnF S L n p)).kind = 2 ∧ ∀ i, i < L.length → cIn S (L.getD i 0) (jnF S L n p) = true
  | 0, p, _, h => by simp [jnF] at h
  | n + 1, p, hp, h => by
    rw [jnF] at h ⊢
    by_cases h1 : p < 0
    · rw [if_pos h1] at h; omega
    · rw [if_neg h1] at h ⊢
      by_cases h2 : (stAt S p).kind = 2 ∧ (allU L.length fun i => cIn S (L.getD i 0) p) = true
      · rw [if_pos h2] at h ⊢
        exact ⟨by unfold isSt; simp; omega, h2.1, fun i hi => of_allU h2.2 i hi⟩
      · rw [if_neg h2] at h ⊢
        exact jnF_spec S L n _ (cUp_lt S p) h
theorem jnT_spec (S : List St) (L : List Int) (h : 0 ≤ jnT S L) : isSt S (jnT S L) = true ∧ (stAt S (jnT S L)).kind = 2 ∧ ∀ i, i < L.length → cIn S (L.getD i 0) (jnT S L) = true := by
  unfold jnT at h ⊢
  by_cases hz : L.length = 0
  · rw [if_pos hz] at h; omega
  · rw [if_neg hz] at h ⊢
    exact jnF_spec S L _ _ (cUp_lt S _) h
set_option maxHeartbeats 1000000 in
theorem join_any (g : Nat) (v : Value) (L : List Int) (C : Ch) (w : World) (hT : TreeAt w g C) (hl : C.sts.length ≤ 1000) (hR : Rooted C.sts) (hv : ListAt w v L) (hL : Short L.length) :
    Calls Tryz.prog 9 #[.pointer (some ⟨g, 0, none⟩), v] w fun e w' => e = .returned (.int .i64 (jnT C.sts L)) ∧ w = w' := by
  have HP := Lib.hid (fun (a : Int) => parent_any g a C w hT hl)
  have HKD := Lib.hid (fun (a : Int) => kindT_any g a C w hT hl)
  have HAI := Lib.hid (fun (s : Int) => allIn_any g s v L C w hT hl hR hv hL)
  have HRT := Lib.hid hR
  obtain ⟨A, cap, rfl, hcap, he⟩ := hv
  unfold Short at hL
  have HE := Lib.hid he
  clear he hT hR
  by_cases hz : L.length = 0
  · have hR : jnT C.sts L = -1 := by unfold jnT; rw [if_pos hz]
    have HRR := Lib.hid hR
    rw [hz] at *
    clear hR
    go_enter Tryz.func9, Tryz.ntmps9
    go_wp2_with fail
    go_ret
    exact ⟨ret_int HRR.out.symm, rfl⟩
  · have hR : jnT C.sts L = jnF C.sts L ((L.getD 0 0).toNat + 1) (cUp C.sts (L.getD 0 0)) := by unfold jnT; rw [if_neg hz]
    have hz2 : ((L.length : Int) == 0) = false := beq_false_of_ne (by omega)
    obtain ⟨b, o, rfl, hbl, hc⟩ := HE.out 0 _ (List.getElem?_eq_getElem (by omega))
    have hx : L.getD 0 0 = L[0]'(by omega) := by simp [List.getD, List.getElem?_eq_getElem (show 0 < L.length by omega)]
    have c0 : w.cell? ⟨b, o, none⟩ = some (.int .i64 (L.getD 0 0)) := by rw [hx]; have := hc; unfold IntAt at this; rwa [Nat.zero_mul, Nat.add_zero] at this
    generalize L.getD 0 0 = x at *
    have hge := cUp_ge C.sts x
    have hle := cUp_le C.sts x
    have hlt := cUp_lt C.sts x
    have hpos : (cUp C.sts x + 1).toNat ≤ x.toNat + 1 := by rcases hle with h | h <;> omega
    have HUP := Lib.hid (fun q => cUp_step C.sts q)
    have HGE := Lib.hid (fun q => cUp_ge C.sts q)
    have HLT := Lib.hid (fun q => cUp_lt C.sts q)
    generalize jnT C.sts L = R at *
    have H0 := Lib.hid hR
    clear hc hx hR hle
    go_enter Tryz.func9, Tryz.ntmps9
    go_wp2_with fail
    refine (HP.out x).mono ?_
    rintro e w1 ⟨rfl, rfl⟩
    rw [HRT.out x]
    generalize cUp C.sts x = u at *
    clear c0
    go_wp2_with fail
    go_loopw [5] (fun p wr => ∃ (n : Nat) (q : Int), -1 ≤ q ∧ q < (C.sts.length : Int) ∧ (q + 1).toNat ≤ n ∧ p = .int .i64 q ∧ Hid (R = jnF C.sts L n q) ∧ wr = w) (fun p _ => (intOf p + 1).toNat)
    case atStart => exact ⟨x.toNat + 1, u, hge, hlt, hpos, rfl, H0, rfl⟩
    case round =>
      clear H0 hge hlt hpos
      obtain ⟨n, q, hq1, hql, hn, rfl, HR, rfl⟩ := hrel
      by_cases hq : q = -1
      · have hR := HR.out
        have : jnF C.sts L n q = -1 := by
          cases n with
          | zero => rfl
          | succ n => rw [jnF, if_pos (by omega)]
        rw [this] at hR
        have HRR := Lib.hid hR
        subst hq
        clear hR this
        go_wp2_with fail
        go_ret
        exact ⟨ret_int HRR.out.symm, rfl⟩
      · obtain ⟨m, rfl⟩ : ∃ m, n = m + 1 := ⟨n - 1, by omega⟩
        have hR := HR.out
        rw [jnF, if_neg (by omega)] at hR
        have hq2 : (q != -1) = true := by simpa using hq
        have hst := HUP.out q (by omega)
        have hg2 := HGE.out q
        have hl2 := HLT.out q
        have hk : kindT C.sts q = (stAt C.sts q).kind := by unfold kindT; rw [if_pos (by unfold isSt; simp; omega)]
        have HKK := Lib.hid hk
        have HN1 := Lib.hid (fun h => hR.trans (if_neg h))
        have HY1 := Lib.hid (fun h => hR.trans (if_pos h))
        generalize (stAt C.sts q).kind = K at *
        clear hk hR
        by_cases hK : K = 2
        · have hK2 : (K == 2) = true := by simpa using hK
          cases ha : (allU L.length fun i => cIn C.sts (L.getD i 0) q) with
          | true =>
            have HAA := Lib.hid ha
            have HRR := Lib.hid (HY1.out ⟨hK, ha⟩)
            clear ha hK
            go_wp2_with fail
            refine (HKD.out q).mono ?_
            rintro e w2 ⟨rfl, rfl⟩
            rw [HKK.out]
            go_wp2_with fail
            refine (HAI.out q).mono ?_
            rintro e w2 ⟨rfl, rfl⟩
            rw [HAA.out]
            go_wp2_with fail
            go_ret
            exact ⟨ret_int HRR.out.symm, rfl⟩
          | false =>
            have HAA := Lib.hid ha
            have HRR := Lib.hid (HN1.out (fun h => by rw [ha] at h; exact absurd h.2 (by simp)))
            clear ha hK
            go_wp2_with fail
            refine (HKD.out q).mono ?_
            rintro e w2 ⟨rfl, rfl⟩
            rw [HKK.out]
            go_wp2_with fail
            refine (HAI.out q).mono ?_
            rintro e w2 ⟨rfl, rfl⟩
            rw [HAA.out]
            go_wp2_with fail
            refine (HP.out q).mono ?_
            rintro e w2 ⟨rfl, rfl⟩
            rw [HRT.out q]
            generalize cUp C.sts q = u2 at *
            go_wp2_with fail
            go_roundw
            case rel => exact ⟨m, u2, hg2, hl2, by omega, rfl, HRR, trivial⟩
            case measure => simp [intOf]; omega
        · have hK2 : (K == 2) = false := by simpa using hK
          have HRR := Lib.hid (HN1.out (fun h => hK h.1))
          clear hK
          go_wp2_with fail
          refine (HKD.out q).mono ?_
          rintro e w2 ⟨rfl, rfl⟩
          rw [HKK.out]
          go_wp2_with fail
          refine (HP.out q).mono ?_
          rintro e w2 ⟨rfl, rfl⟩
          rw [HRT.out q]
          generalize cUp C.sts q = u2 at *
          go_wp2_with fail
          go_roundw
          case rel => exact ⟨m, u2, hg2, hl2, by omega, rfl, HRR, trivial⟩
          case measure => simp [intOf]; omega
end Go.Proofs.YteepfpmeijnkbaaGreatDoor
