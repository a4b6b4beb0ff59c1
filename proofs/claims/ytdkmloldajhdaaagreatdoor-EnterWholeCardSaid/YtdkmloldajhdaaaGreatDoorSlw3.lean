/- The contract of the document's Whole, at a set that is whole. -/
import Derived.Test.YtdkmloldajhdaaaGreatDoorSrr
import Derived.Test.YtdkmloldajhdaaaGreatDoorSwh
import Derived.Test.YtdkmloldajhdaaaGreatDoorSlw2
namespace Go.Proofs.YtdkmloldajhdaaaGreatDoor
open Go.ChangeShapes Go.WideShapes Go.ChangeAt Go.RowKit
set_option linter.unusedVariables false

def cntK (A : Nat → Bool) (L : List Int) : Nat := (L.filter fun x => hasS A x).length
theorem cntK_snoc (A : Nat → Bool) (L : List Int) (x : Int) : cntK A (L ++ [x]) = cntK A L + if hasS A x = true then 1 else 0 := by
  unfold cntK
  rw [List.filter_append, List.length_append]
  cases h : hasS A x <;> simp [h]
theorem cntK_le (A : Nat → Bool) (L : List Int) : cntK A L ≤ L.length := List.length_filter_le _ _
theorem kids_nodup (S : List St) (p : Int) : (kids S p).Nodup := by
  unfold kids kidsU
  refine List.Pairwise.map (R := fun a b : Nat => a ≠ b) _ (fun a b h h' => h (by omega)) ?_
  exact List.Pairwise.filter _ List.nodup_range
theorem cntK_one {A : Nat → Bool} {k : Int} : ∀ {L : List Int}, L.Nodup → k ∈ L → hasS A k = true → (∀ k' ∈ L, hasS A k' = true → k' = k) → cntK A L = 1
  | [], _, h, _, _ => by cases h
  | x :: L, hn, hk, hA, hu => by
    have hn' := List.nodup_cons.1 hn
    by_cases hx : x = k
    · subst hx
      have hz : ∀ y ∈ L, ¬ hasS A y = true := fun y hy hAy => hn'.1 (by rw [← hu y (List.mem_cons_of_mem _ hy) hAy]; exact hy)
      unfold cntK
      rw [List.filter_cons, if_pos hA, List.filter_eq_nil_iff.2 hz]
      rfl
    · have hAx : ¬ hasS A x = true := fun h => hx (hu x (List.mem_cons_self ..) h)
      have hkL : k ∈ L := by rcases List.mem_cons.1 hk with h | h; exact absurd h.symm hx; exact h
      have ih := cntK_one hn'.2 hkL hA fun k' hk' h => hu k' (List.mem_cons_of_mem _ hk') h
      unfold cntK at ih ⊢
      rw [List.filter_cons, if_neg hAx]
      exact ih
theorem cntK_all {A : Nat → Bool} {L : List Int} (h : ∀ k ∈ L, hasS A k = true) : cntK A L = L.length := by
  unfold cntK
  rw [List.filter_eq_self.2 h]
theorem has_set {S : List St} (A : Nat → Bool) (k : Nat) (hk : k < S.length) : decide (bset A S.length / 2 ^ k % 2 = 1) = hasS A (k : Int) := by
  rw [bset_bit A _ k hk, hasS_nat]
  cases A k <;> simp
theorem has_none {S : List St} (A : Nat → Bool) (k : Nat) (hk : ¬ k < S.length) : decide (bset A S.length / 2 ^ k % 2 = 1) = false := by
  rw [Nat.div_eq_of_lt (Nat.lt_of_lt_of_le (bset_lt A S.length) (Nat.pow_le_pow_right (by decide) (by omega)))]
  rfl
set_option maxHeartbeats 8000000 in
set_option maxRecDepth 100000 in
theorem rwhole_any (vr : Int) (vs vt : Value) (C : Ch) (A : Nat → Bool) (w : World) (hC : ChHas w vs vt C) (hta : Tame C.sts) (hW : WB C.sts A 0) :
    Calls Tryz.prog 16 #[.agg #[.int .i64 vr, vs, vt], .int .u32 ((bset A C.sts.length : Nat) : Int)] w fun e w' => e = .returned (.bool true) ∧ Below w.heap.size w w' := by
  have hlen := hta.len
  have hpos := hta.pos
  have HC := Lib.hid hC
  have HTA := Lib.hid hta
  have HW := Lib.hid hW
  have hsm := bset_u32 A (show C.sts.length ≤ 31 by omega)
  have HHB := Lib.hid (fun (k : Nat) (hk : k ≤ 31) (W : World) => hasBit_any (bset A C.sts.length) k hsm (by omega) W)
  have HHS := Lib.hid (fun k hk => has_set (S := C.sts) A k hk)
  have HHN := Lib.hid (fun k hk => has_none (S := C.sts) A k hk)
  have h00 : hasS A ((0 : Nat) : Int) = true := hW.1
  have HH0 := Lib.hid (HHB.out 0 (by omega))
  rw [HHS.out 0 hpos, h00] at HH0
  obtain ⟨b, o, scap, vi0, ve0, vx0, rfl, hscap, hbl, _, _⟩ := hC.st hpos
  generalize bset A C.sts.length = N at *
  clear hC hta hW h00
  go_enter Tryz.func16, Tryz.ntmps16
  go_wp2_with fail
  refine (HH0.out _).mono ?_
  rintro e w1 ⟨rfl, rfl⟩
  go_wp2_with fail
  go_loopw [5] (fun i wr => ∃ (k : Nat), k ≤ 32 ∧ i = .int .i64 (k : Int) ∧ Hid (Below (w.alloc (chBox vr (.slice (some ⟨b, o, none⟩) C.sts.length scap) vt)).heap.size (w.alloc (chBox vr (.slice (some ⟨b, o, none⟩) C.sts.length scap) vt)) wr)) (fun i _ => 32 - (intOf i).toNat)
  case atStart => exact ⟨0, Nat.zero_le _, rfl, Lib.hid (Below.refl _ _)⟩
  case round =>
    obtain ⟨k, hk, rfl, HB⟩ := hrel
    obtain ⟨wo, rfl⟩ : ∃ wo : World, wo = wr := ⟨_, rfl⟩
    obtain ⟨x0, x1, x2⟩ := box_later HB.out
    by_cases hlt : k < 32
    · by_cases hkn : k < C.sts.length
      · have HHK := Lib.hid (HHB.out k (by omega) wo)
        rw [HHS.out k hkn] at HHK
        cases hAk : hasS A (k : Int) with
        | false =>
          rw [hAk] at HHK
          clear hAk
          go_wp2_with fail
          refine HHK.out.mono ?_
          rintro e w2 ⟨rfl, rfl⟩
          go_wp2_with fail
          go_roundw
          case rel => exact ⟨k + 1, by omega, by go_num, HB⟩
          case measure => simp [intOf]; omega
        | true =>
          rw [hAk] at HHK
          have hs := isSt_of hkn
          have hsub : Sub C.sts (k : Int) 0 := by
            by_cases hk0 : k = 0
            · left; omega
            · right; exact HTA.out.all _ hs (by omega)
          obtain ⟨g1, g2, g3, g4⟩ := HW.out.2 _ hs hAk hsub
          have hge : decide ((C.sts.length : Int) ≤ (k : Int)) = false := by simp; omega
          have HPA := Lib.hid (past_any vr (.slice (some ⟨b, o, none⟩) C.sts.length scap) vt C k wo (HC.out.below (below_boxed HB.out)) (by omega) hkn)
          rw [g1] at HPA
          obtain ⟨vi, ve, vx, hst, _⟩ := HC.out.st' hkn
          have HSK : Hid (∀ W, Below w.heap.size w W → W.cell? ⟨b, o + k * 5, none⟩ = some (.int .i64 (stAt C.sts (k : Int)).kind) ∧ W.cell? ⟨b, o + k * 5 + 1, none⟩ = some (.int .i64 (stAt C.sts (k : Int)).par)) := Lib.hid (fun W hW => ⟨(hst.below hW hbl).1, (hst.below hW hbl).2.1⟩)
          have HKD := Lib.hid (fun (W : World) (hW : Below w.heap.size w W) => rkids_any vr (k : Int) (.slice (some ⟨b, o, none⟩) C.sts.length scap) vt C W (HC.out.below hW) (by omega))
          have HKN := Lib.hid (kids_nodup C.sts (k : Int))
          have HKM : Hid (∀ x ∈ kids C.sts (k : Int), isSt C.sts x = true) := Lib.hid (fun x hx => (kids_mem.1 hx).1)
          have hkl := kids_len C.sts (k : Int)
          have HC2 : Hid ((stAt C.sts (k : Int)).kind = 2 → cntK A (kids C.sts (k : Int)) = 1) := Lib.hid (fun h => by
            obtain ⟨q, q1, q2, q3⟩ := g3 h
            exact cntK_one HKN.out q1 q2 q3)
          have HC3 : Hid ((stAt C.sts (k : Int)).kind = 3 → cntK A (kids C.sts (k : Int)) = (kids C.sts (k : Int)).length) := Lib.hid (fun h => cntK_all (g4 h))
          have HPAR : Hid (k ≠ 0 → ∃ q : Nat, (stAt C.sts (k : Int)).par = (q : Int) ∧ q < C.sts.length ∧ hasS A (q : Int) = true) := Lib.hid (fun h0 => by
            have hu := HTA.out.up _ hs (by omega)
            have hp := HTA.out.par _ hs
            have hlt := cUp_lt C.sts (k : Int)
            refine ⟨(cUp C.sts (k : Int)).toNat, by rw [hp]; omega, by omega, ?_⟩
            rw [show (((cUp C.sts (k : Int)).toNat : Nat) : Int) = cUp C.sts (k : Int) by omega]
            exact g2 (by omega))
          generalize kids C.sts (k : Int) = L at *
          generalize (stAt C.sts (k : Int)).kind = Ks at *
          generalize hPs : (stAt C.sts (k : Int)).par = Ps at *
          clear hAk hs hsub g1 g2 g3 g4 hst hPs
          go_wp2_with fail
          refine HHK.out.mono ?_
          rintro e w2 ⟨rfl, rfl⟩
          go_wp2_with fail
          refine HPA.out.mono ?_
          rintro e w3 ⟨rfl, hb3⟩
          have HB3 := Lib.hid (HB.out.trans (hb3.mono HB.out.size))
          obtain ⟨z0, z1, z2⟩ := box_later HB3.out
          obtain ⟨p0, p1⟩ := HSK.out _ (below_boxed HB3.out)
          clear hb3 x0 x1 x2 HHK HPA HB
          by_cases hk0 : k = 0
          · have hgt : ¬ 0 < k := by omega
            have hgt2 : decide (0 < k) = false := by simp; omega
            clear hk0
            go_wp2_with fail
            refine (HKD.out w3 (below_boxed HB3.out)).mono ?_
            rintro e w5 ⟨hb5, v5, rfl, ho5⟩
            have HB5 := Lib.hid (HB3.out.trans (hb5.mono HB3.out.size))
            have HL5 := Lib.hid (list_of_own ho5)
            obtain ⟨mA, mcap, rfl, hmc⟩ := RowsAt.slice HL5.out
            clear hb5 ho5 z0 z1 z2 p0 p1 HB3 HKD
            go_wp2_with fail
            go_loopw [8, 9] (fun nv i wr => ∃ (m : Nat), m ≤ L.length ∧ i = .int .i64 (m : Int) ∧ nv = .int .i64 (cntK A (L.take m) : Int) ∧ wr = w5) (fun _ i _ => L.length - (intOf i).toNat)
            case atStart => exact ⟨0, Nat.zero_le _, rfl, rfl, rfl⟩
            case round =>
              obtain ⟨m, hm, rfl, rfl, rfl⟩ := hrel
              by_cases hlt2 : m < L.length
              · obtain ⟨mb, mo, hmA, hmbl, hmc0⟩ := (let ⟨_, _, h1, _, h3⟩ := HL5.out; by injection h1 with e1 e2 e3; subst e1; exact h3 m _ (List.getElem?_eq_getElem hlt2) : ∃ b o, mA = some ⟨b, o, none⟩ ∧ b < wr.heap.size ∧ (IntAt wr b (o + m * 1) L[m]))
                subst hmA
                obtain ⟨j, hj, hjn⟩ := isSt_nat (HKM.out L[m] (List.getElem_mem hlt2))
                have d0 : wr.cell? ⟨mb, mo + m, none⟩ = some (.int .i64 (j : Int)) := by have := hmc0; unfold IntAt at this; rw [Nat.mul_one, hj] at this; exact this
                have HSN : Hid (cntK A (L.take (m + 1)) = cntK A (L.take m) + if hasS A (j : Int) = true then 1 else 0) := Lib.hid (by rw [List.take_succ_eq_append_getElem hlt2, cntK_snoc, hj])
                have hcl : cntK A (L.take m) ≤ 24 := by have := cntK_le A (L.take m); rw [List.length_take] at this; omega
                have HHJ := Lib.hid (HHB.out j (by omega) wr)
                rw [HHS.out j hjn] at HHJ
                generalize cntK A (L.take m) = cc at *
                clear hmc0 hj
                cases hAj : hasS A (j : Int) with
                | true =>
                  rw [hAj] at HHJ
                  rw [hAj, if_pos rfl] at HSN
                  clear hAj
                  go_wp2_with fail
                  refine HHJ.out.mono ?_
                  rintro e w6 ⟨rfl, rfl⟩
                  go_wp2_with fail
                  go_roundw
                  case rel => exact ⟨m + 1, by omega, by go_num, by rw [HSN.out]; go_num, trivial⟩
                  case measure => simp [intOf]; omega
                | false =>
                  rw [hAj] at HHJ
                  rw [hAj, if_neg (by simp)] at HSN
                  clear hAj
                  go_wp2_with fail
                  refine HHJ.out.mono ?_
                  rintro e w6 ⟨rfl, rfl⟩
                  go_wp2_with fail
                  go_roundw
                  case rel => exact ⟨m + 1, by omega, by go_num, by rw [HSN.out]; rfl, trivial⟩
                  case measure => simp [intOf]; omega
              · obtain rfl : m = L.length := by omega
                rw [List.take_length]
                obtain ⟨z0, z1, z2⟩ := box_later HB5.out
                obtain ⟨p0, p1⟩ := HSK.out _ (below_boxed HB5.out)
                by_cases h2 : Ks = 2
                · rw [HC2.out h2]
                  have h2b : (Ks == 2) = true := by simpa using h2
                  have h3b : (Ks == 3) = false := by rw [h2]; rfl
                  clear h2
                  go_wp2_with fail
                  go_roundw
                  case rel => exact ⟨k + 1, by omega, by go_num, HB5⟩
                  case measure => simp [intOf]; omega
                · have h2b : (Ks == 2) = false := by simpa using h2
                  by_cases h3 : Ks = 3
                  · rw [HC3.out h3]
                    have h3b : (Ks == 3) = true := by simpa using h3
                    clear h2 h3
                    go_wp2_with fail
                    go_roundw
                    case rel => exact ⟨k + 1, by omega, by go_num, HB5⟩
                    case measure => simp [intOf]; omega
                  · have h3b : (Ks == 3) = false := by simpa using h3
                    clear h2 h3
                    go_wp2_with fail
                    go_roundw
                    case rel => exact ⟨k + 1, by omega, by go_num, HB5⟩
                    case measure => simp [intOf]; omega
          · obtain ⟨q, rfl, hqn, hAq⟩ := HPAR.out hk0
            have hgt : 0 < k := by omega
            have HHQ := Lib.hid (HHB.out q (by omega) w3)
            rw [HHS.out q hqn, hAq] at HHQ
            clear hk0 hAq
            go_wp2_with fail
            refine HHQ.out.mono ?_
            rintro e w4 ⟨rfl, rfl⟩
            go_wp2_with fail
            refine (HKD.out w3 (below_boxed HB3.out)).mono ?_
            rintro e w5 ⟨hb5, v5, rfl, ho5⟩
            have HB5 := Lib.hid (HB3.out.trans (hb5.mono HB3.out.size))
            have HL5 := Lib.hid (list_of_own ho5)
            obtain ⟨mA, mcap, rfl, hmc⟩ := RowsAt.slice HL5.out
            clear hb5 ho5 z0 z1 z2 p0 p1 HB3 HKD
            go_wp2_with fail
            go_loopw [8, 9] (fun nv i wr => ∃ (m : Nat), m ≤ L.length ∧ i = .int .i64 (m : Int) ∧ nv = .int .i64 (cntK A (L.take m) : Int) ∧ wr = w5) (fun _ i _ => L.length - (intOf i).toNat)
            case atStart => exact ⟨0, Nat.zero_le _, rfl, rfl, rfl⟩
            case round =>
              obtain ⟨m, hm, rfl, rfl, rfl⟩ := hrel
              by_cases hlt2 : m < L.length
              · obtain ⟨mb, mo, hmA, hmbl, hmc0⟩ := (let ⟨_, _, h1, _, h3⟩ := HL5.out; by injection h1 with e1 e2 e3; subst e1; exact h3 m _ (List.getElem?_eq_getElem hlt2) : ∃ b o, mA = some ⟨b, o, none⟩ ∧ b < wr.heap.size ∧ (IntAt wr b (o + m * 1) L[m]))
                subst hmA
                obtain ⟨j, hj, hjn⟩ := isSt_nat (HKM.out L[m] (List.getElem_mem hlt2))
                have d0 : wr.cell? ⟨mb, mo + m, none⟩ = some (.int .i64 (j : Int)) := by have := hmc0; unfold IntAt at this; rw [Nat.mul_one, hj] at this; exact this
                have HSN : Hid (cntK A (L.take (m + 1)) = cntK A (L.take m) + if hasS A (j : Int) = true then 1 else 0) := Lib.hid (by rw [List.take_succ_eq_append_getElem hlt2, cntK_snoc, hj])
                have hcl : cntK A (L.take m) ≤ 24 := by have := cntK_le A (L.take m); rw [List.length_take] at this; omega
                have HHJ := Lib.hid (HHB.out j (by omega) wr)
                rw [HHS.out j hjn] at HHJ
                generalize cntK A (L.take m) = cc at *
                clear hmc0 hj
                cases hAj : hasS A (j : Int) with
                | true =>
                  rw [hAj] at HHJ
                  rw [hAj, if_pos rfl] at HSN
                  clear hAj
                  go_wp2_with fail
                  refine HHJ.out.mono ?_
                  rintro e w6 ⟨rfl, rfl⟩
                  go_wp2_with fail
                  go_roundw
                  case rel => exact ⟨m + 1, by omega, by go_num, by rw [HSN.out]; go_num, trivial⟩
                  case measure => simp [intOf]; omega
                | false =>
                  rw [hAj] at HHJ
                  rw [hAj, if_neg (by simp)] at HSN
                  clear hAj
                  go_wp2_with fail
                  refine HHJ.out.mono ?_
                  rintro e w6 ⟨rfl, rfl⟩
                  go_wp2_with fail
                  go_roundw
                  case rel => exact ⟨m + 1, by omega, by go_num, by rw [HSN.out]; rfl, trivial⟩
                  case measure => simp [intOf]; omega
              · obtain rfl : m = L.length := by omega
                rw [List.take_length]
                obtain ⟨z0, z1, z2⟩ := box_later HB5.out
                obtain ⟨p0, p1⟩ := HSK.out _ (below_boxed HB5.out)
                by_cases h2 : Ks = 2
                · rw [HC2.out h2]
                  have h2b : (Ks == 2) = true := by simpa using h2
                  have h3b : (Ks == 3) = false := by rw [h2]; rfl
                  clear h2
                  go_wp2_with fail
                  go_roundw
                  case rel => exact ⟨k + 1, by omega, by go_num, HB5⟩
                  case measure => simp [intOf]; omega
                · have h2b : (Ks == 2) = false := by simpa using h2
                  by_cases h3 : Ks = 3
                  · rw [HC3.out h3]
                    have h3b : (Ks == 3) = true := by simpa using h3
                    clear h2 h3
                    go_wp2_with fail
                    go_roundw
                    case rel => exact ⟨k + 1, by omega, by go_num, HB5⟩
                    case measure => simp [intOf]; omega
                  · have h3b : (Ks == 3) = false := by simpa using h3
                    clear h2 h3
                    go_wp2_with fail
                    go_roundw
                    case rel => exact ⟨k + 1, by omega, by go_num, HB5⟩
                    case measure => simp [intOf]; omega
      · have HHK := Lib.hid (HHB.out k (by omega) wo)
        rw [HHN.out k hkn] at HHK
        go_wp2_with fail
        refine HHK.out.mono ?_
        rintro e w2 ⟨rfl, rfl⟩
        go_wp2_with fail
        go_roundw
        case rel => exact ⟨k + 1, by omega, by go_num, HB⟩
        case measure => simp [intOf]; omega
    · obtain rfl : k = 32 := by omega
      go_wp2_with fail
      go_ret
      exact ⟨rfl, below_boxed HB.out⟩
end Go.Proofs.YtdkmloldajhdaaaGreatDoor
/- The walk of the law EnterWhole: true for any chart, any histories and any number. -/
namespace Go.Proofs.YtdkmloldajhdaaaGreatDoor
open Go.ChangeShapes Go.WideShapes Go.ChangeAt Go.RowKit
set_option linter.unusedVariables false

/-- one more, where the first bit is free -/
theorem bset_first (A : Nat → Bool) (n : Nat) (hn : 0 < n) (h : A 0 = false) : bset A n + 1 = bset (addS A 0) n := by
  have h1 := bset_add A n 0 hn
  have hb := bset_bit A n 0 hn
  rw [h, if_neg (by simp), Nat.pow_zero, Nat.div_one] at hb
  have h2 := Nat.two_pow_add_eq_or_of_lt (b := 1) (i := 1) (by decide) (bset A n / 2)
  have e : 2 ^ 1 * (bset A n / 2) = bset A n := by omega
  rw [e] at h2
  rw [h2]
  exact h1
/-- what Set tells, with no histories, up to the first state, for one state -/
theorem set_one {S : List St} (hT : Tame S) (s : Int) (hs : isSt S s = true) (hh : histB (stAt S s).kind = false) (hpos : 0 < s) :
    ∃ A : Nat → Bool, bset (pSet S [] 0 [s]).a S.length = bset A S.length ∧ bset A S.length + 1 = bset (addS A 0) S.length ∧ WB S (addS A 0) 0 ∧ hasS A s = true := by
  have hg := good_std (H := []) hT (fun k hk => by cases hk)
  obtain ⟨h1, h2, h3⟩ := whole_one hT [] s hs hh hpos
  refine ⟨dSet S [] 0 [s], by rw [set_same hT hg.1], bset_first _ _ hT.pos ?_, h1, h2⟩
  have : hasS (dSet S [] 0 [s]) ((0 : Nat) : Int) = false := h3
  rwa [hasS_nat] at this
set_option maxHeartbeats 8000000 in
set_option maxRecDepth 100000 in
theorem slaw3_any (vs vt vh : Value) (C : Ch) (H : List Nat) (s : Int) (w : World) (hL : Laid w) (hC : ChHas w vs vt C) (hS : ShortCh C) (hH : HistAt w vh H) (hHs : Short H.length) :
    Calls Tryz.prog 5 #[.agg #[.int .i64 C.vars, vs, vt], vh, .int .i64 s] w fun e w' => e = .returned (.bool true) ∧ Below w.heap.size w w' := by
  obtain ⟨sA, scap, tA, tcap, rfl, rfl⟩ := hC.slices
  have HL := Lib.hid hL
  have HL0 := Lib.hid (hL.after (below_box w (chBox C.vars (.slice sA C.sts.length scap) (.slice tA C.trs.length tcap))))
  have HF := Lib.hid (fun (W : World) (h : Below (w.alloc (chBox C.vars (.slice sA C.sts.length scap) (.slice tA C.trs.length tcap))).heap.size (w.alloc (chBox C.vars (.slice sA C.sts.length scap) (.slice tA C.trs.length tcap))) W) => few_any C.vars (.slice sA C.sts.length scap) (.slice tA C.trs.length tcap) C W (hC.below (below_boxed h)) hS)
  have HC := Lib.hid hC
  have HCH := Lib.hid (fun (W : World) (hF : fewB C = true) (h : Below (w.alloc (chBox C.vars (.slice sA C.sts.length scap) (.slice tA C.trs.length tcap))).heap.size (w.alloc (chBox C.vars (.slice sA C.sts.length scap) (.slice tA C.trs.length tcap))) W) => new_any (.slice sA C.sts.length scap) (.slice tA C.trs.length tcap) C W (hL.after (below_boxed h)) (hC.below (below_boxed h)) hF)
  have HHA := Lib.hid hH
  obtain ⟨hA, hcap, rfl, hhcap⟩ := RowsAt.slice hH
  unfold Short at hHs
  have hnn := neq_nil_nil
  have hnc := fun p W => neq_code_any p W
  have hns := fun p W => neq_spot_any p W
  clear hL hC hS hH
  cases hf : fewB C with
  | false =>
    have HFF := Lib.hid hf
    clear hf
    go_enter Tryz.func5, Tryz.ntmps5
    go_wp2_with fail
    refine (upS_any _ HL0.out).mono ?_
    rintro e w1 ⟨rfl, hb1⟩
    obtain ⟨x0, x1, x2⟩ := box_later hb1
    have HB1 := Lib.hid hb1
    clear hb1
    go_wp2_with fail
    refine (HF.out _ HB1.out).mono ?_
    rintro e w2 ⟨rfl, hb2⟩
    have hB2 := HB1.out.trans (hb2.mono HB1.out.size)
    clear x0 x1 x2
    obtain ⟨x0, x1, x2⟩ := box_later hB2
    have HB2 := Lib.hid hB2
    rw [HFF.out]
    clear hb2 hB2
    go_wp2_with fail
    go_ret
    exact ⟨rfl, below_boxed HB2.out⟩
  | true =>
    have HFF := Lib.hid hf
    clear hf
    by_cases h40 : 40 < H.length
    · have h40b : decide ((40 : Int) < (H.length : Int)) = true := by simp; omega
      go_enter Tryz.func5, Tryz.ntmps5
      go_wp2_with fail
      refine (upS_any _ HL0.out).mono ?_
      rintro e w1 ⟨rfl, hb1⟩
      obtain ⟨x0, x1, x2⟩ := box_later hb1
      have HB1 := Lib.hid hb1
      clear hb1
      go_wp2_with fail
      refine (HF.out _ HB1.out).mono ?_
      rintro e w2 ⟨rfl, hb2⟩
      have hB2 := HB1.out.trans (hb2.mono HB1.out.size)
      clear x0 x1 x2
      obtain ⟨x0, x1, x2⟩ := box_later hB2
      have HB2 := Lib.hid hB2
      rw [HFF.out]
      clear hb2 hB2
      go_wp2_with fail
      go_ret
      exact ⟨rfl, below_boxed HB2.out⟩
    · have h40b : decide ((40 : Int) < (H.length : Int)) = false := by simp; omega
      have HCK := Lib.hid (fun (W : World) h => HCH.out W HFF.out h)
      by_cases hok : chk hasTB C = .ok
      · have HOK := Lib.hid hok
        have hta := tame_of hok
        have hlen := hta.len
        have HTA := Lib.hid hta
        have hpos := hta.pos
        have hpos2 : ((C.sts.length : Int) == 0) = false := beq_false_of_ne (by omega)
        have h0 : isSt C.sts 0 = true := isSt_iff.2 ⟨by omega, by have := hta.pos; omega⟩
        obtain ⟨t0, hi0, ht1, ht2, ht3⟩ := hta.ini2 0 h0 hta.first
        obtain ⟨A1, hA1S, hSA, hWA, hHA⟩ := set_one hta t0 ht1 ht2 (by have := cIn_range ht3; omega)
        have HA1S := Lib.hid hA1S
        have HWA := Lib.hid hWA
        have HSUMA : Hid (((bset A1 C.sts.length : Nat) : Int) + 1 = ((bset (addS A1 0) C.sts.length : Nat) : Int)) := Lib.hid (by rw [← hSA]; rfl)
        have hNA : bset (addS A1 0) C.sts.length < 4294967296 := bset_u32 _ (by omega)
        have hNA1 : bset A1 C.sts.length + 1 < 4294967296 := by omega
        obtain ⟨b, o, cap, vi, ve, vx, hsl, hcc, hbl, hst, hhas⟩ := HC.out.st hta.pos
        injection hsl with e1 e2 e3
        subst e1; subst e3
        have HINI : Hid (ListAt w vi [t0]) := Lib.hid (by have := hhas.1; rwa [show (stAt C.sts ((0 : Nat) : Int)).ini = [t0] from hi0] at this)
        obtain ⟨iA, icap, rfl, hicap⟩ := RowsAt.slice HINI.out
        have HS0 : Hid (StC w b o (stAt C.sts ((0 : Nat) : Int)) (.slice iA 1 icap) ve vx) := Lib.hid (by simpa using hst)
        have HBL := Lib.hid hbl
        clear h0 hi0 ht1 ht2 ht3 hA1S hSA hWA hHA hNA hst hhas hbl
        clear hok hta
        go_enter Tryz.func5, Tryz.ntmps5
        go_wp2_with fail
        refine (upS_any _ HL0.out).mono ?_
        rintro e w1 ⟨rfl, hb1⟩
        obtain ⟨x0, x1, x2⟩ := box_later hb1
        have HB1 := Lib.hid hb1
        clear hb1
        go_wp2_with fail
        refine (HF.out _ HB1.out).mono ?_
        rintro e w2 ⟨rfl, hb2⟩
        have hB2 := HB1.out.trans (hb2.mono HB1.out.size)
        clear x0 x1 x2
        obtain ⟨x0, x1, x2⟩ := box_later hB2
        have HB2 := Lib.hid hB2
        rw [HFF.out]
        clear hb2 hB2
        go_wp2_with fail
        refine (HCK.out _ HB2.out).mono ?_
        intro e w3 hp
        obtain ⟨hb3, t, rfl, ht, hT⟩ := npost_yes hp HOK.out
        have HB3 := Lib.hid (HB2.out.trans (hb3.mono HB2.out.size))
        have HT := Lib.hid hT
        clear hb3 hp hT ht x0 x1 x2
        obtain ⟨x0, x1, x2⟩ := box_later HB3.out
        obtain ⟨c0, c1, c2, c3, c4⟩ := HS0.out.below (below_boxed HB3.out) HBL.out
        go_wp2_with fail
        refine (kindT_any t s C w3 HT.out (by omega)).mono ?_
        rintro e w4 ⟨rfl, rfl⟩
        by_cases hk1 : 1 ≤ kindT C.sts s
        · have hk1b : decide ((1 : Int) ≤ kindT C.sts s) = true := by simpa using hk1
          go_wp2_with fail
          refine (kindT_any t s C _ HT.out (by omega)).mono ?_
          rintro e w4 ⟨rfl, rfl⟩
          by_cases hk4 : kindT C.sts s ≤ 4
          · have hk4b : decide (kindT C.sts s ≤ (4 : Int)) = true := by simpa using hk4
            by_cases hs0 : s = 0
            · have hs0b : (s != 0) = false := by simpa using hs0
              clear hs0
              generalize kindT C.sts s = KK at *
              go_wp2_with fail
              refine (enterSet_any t 0 (.slice none 0 0) _ C [] [t0] _ HT.out HOK.out HFF.out (RowsAt.nil _) (by simp) (HINI.out.below (below_boxed HB3.out)) (by simp)).mono ?_
              rintro e w4 ⟨rfl, hb4⟩
              have HB4 := Lib.hid (HB3.out.trans (hb4.mono HB3.out.size))
              have HT4 := Lib.hid (HT.out.below hb4)
              rw [HA1S.out]
              clear hb4 x0 x1 x2 c0 c1 c2 c3 c4
              obtain ⟨x0, x1, x2⟩ := box_later HB4.out
              go_wp2_with fail
              rw [HSUMA.out]
              refine (rwhole_any C.vars _ _ C (addS A1 0) w4 (HC.out.below (below_boxed HB4.out)) HTA.out HWA.out).mono ?_
              rintro e w5 ⟨rfl, hb5⟩
              have HB5 := Lib.hid (HB4.out.trans (hb5.mono HB4.out.size))
              have HT5 := Lib.hid (HT4.out.below hb5)
              clear hb5 x0 x1 x2
              obtain ⟨x0, x1, x2⟩ := box_later HB5.out
              go_wp2_with fail
              go_ret
              exact ⟨rfl, below_boxed HB5.out⟩
            · have hs0b : (s != 0) = true := by simpa using hs0
              have hisS : isSt C.sts s = true := by
                cases hc : isSt C.sts s with
                | true => rfl
                | false => unfold kindT at hk1; rw [if_neg (by rw [hc]; simp)] at hk1; omega
              have hkk : kindT C.sts s = (stAt C.sts s).kind := by unfold kindT; rw [if_pos hisS]
              have hhs : histB (stAt C.sts s).kind = false := by
                rw [hkk] at hk4
                unfold histB
                have h5 : ¬ (stAt C.sts s).kind = 5 := by omega
                have h6 : ¬ (stAt C.sts s).kind = 6 := by omega
                simp [h5, h6]
              obtain ⟨B1, hB1S, hSB, hWB, hHB⟩ := set_one HTA.out s hisS hhs (by have := isSt_iff.1 hisS; omega)
              have HB1S := Lib.hid hB1S
              have HWB := Lib.hid hWB
              have HSUMB : Hid (((bset B1 C.sts.length : Nat) : Int) + 1 = ((bset (addS B1 0) C.sts.length : Nat) : Int)) := Lib.hid (by rw [← hSB]; rfl)
              have hNB : bset (addS B1 0) C.sts.length < 4294967296 := bset_u32 _ (by omega)
              have hNB1 : bset B1 C.sts.length + 1 < 4294967296 := by omega
              obtain ⟨sk, rfl, hsk⟩ := isSt_nat hisS
              have HHAS : Hid (∀ W : World, Calls Tryz.prog 17 #[.int .u32 ((bset B1 C.sts.length : Nat) : Int), .int .i64 (sk : Int)] W fun e w' => e = .returned (.bool true) ∧ W = w') := Lib.hid (fun W => by
                have := hasBit_any (bset B1 C.sts.length) sk (by omega) (by omega) W
                rwa [has_set (S := C.sts) B1 sk hsk, hHB] at this)
              generalize kindT C.sts (sk : Int) = KK at *
              clear hs0 hisS hkk hhs hB1S hSB hWB hHB hNB
              go_wp2_with fail
              refine (enterSet_any t 0 (.slice none 0 0) _ C [] [t0] _ HT.out HOK.out HFF.out (RowsAt.nil _) (by simp) (HINI.out.below (below_boxed HB3.out)) (by simp)).mono ?_
              rintro e w4 ⟨rfl, hb4⟩
              have HB4 := Lib.hid (HB3.out.trans (hb4.mono HB3.out.size))
              have HT4 := Lib.hid (HT.out.below hb4)
              rw [HA1S.out]
              clear hb4 x0 x1 x2 c0 c1 c2 c3 c4
              obtain ⟨x0, x1, x2⟩ := box_later HB4.out
              go_wp2_with fail
              rw [HSUMA.out]
              refine (rwhole_any C.vars _ _ C (addS A1 0) w4 (HC.out.below (below_boxed HB4.out)) HTA.out HWA.out).mono ?_
              rintro e w5 ⟨rfl, hb5⟩
              have HB5 := Lib.hid (HB4.out.trans (hb5.mono HB4.out.size))
              have HT5 := Lib.hid (HT4.out.below hb5)
              clear hb5 x0 x1 x2
              obtain ⟨x0, x1, x2⟩ := box_later HB5.out
              go_wp2_with fail
              have HBN := Lib.hid (HB5.out.alloc HB5.out.size (.cells #[.int .i64 (sk : Int)] 3))
              have HTN := Lib.hid (HT5.out.below (below_box w5 (.cells #[.int .i64 (sk : Int)] 3)))
              refine (enterSet_any t 0 (.slice none 0 0) _ C [] [(sk : Int)] _ HTN.out HOK.out HFF.out (RowsAt.nil _) (by simp) (one_list w5.heap.size (Blk.new w5 3 _)) (by simp)).mono ?_
              rintro e w6 ⟨rfl, hb6⟩
              have HB6 := Lib.hid (HBN.out.trans (hb6.mono HBN.out.size))
              rw [HB1S.out]
              clear hb6 x0 x1 x2
              obtain ⟨x0, x1, x2⟩ := box_later HB6.out
              go_wp2_with fail
              rw [HSUMB.out]
              refine (rwhole_any C.vars _ _ C (addS B1 0) w6 (HC.out.below (below_boxed HB6.out)) HTA.out HWB.out).mono ?_
              rintro e w7 ⟨rfl, hb7⟩
              have HB7 := Lib.hid (HB6.out.trans (hb7.mono HB6.out.size))
              clear hb7 x0 x1 x2
              go_wp2_with fail
              refine (HHAS.out w7).mono ?_
              rintro e w8 ⟨rfl, rfl⟩
              go_wp2_with fail
              go_ret
              exact ⟨rfl, below_boxed HB7.out⟩
          · have hk4b : decide (kindT C.sts s ≤ (4 : Int)) = false := by simp; omega
            generalize kindT C.sts s = KK at *
            go_wp2_with fail
            refine (enterSet_any t 0 (.slice none 0 0) _ C [] [t0] _ HT.out HOK.out HFF.out (RowsAt.nil _) (by simp) (HINI.out.below (below_boxed HB3.out)) (by simp)).mono ?_
            rintro e w4 ⟨rfl, hb4⟩
            have HB4 := Lib.hid (HB3.out.trans (hb4.mono HB3.out.size))
            have HT4 := Lib.hid (HT.out.below hb4)
            rw [HA1S.out]
            clear hb4 x0 x1 x2 c0 c1 c2 c3 c4
            obtain ⟨x0, x1, x2⟩ := box_later HB4.out
            go_wp2_with fail
            rw [HSUMA.out]
            refine (rwhole_any C.vars _ _ C (addS A1 0) w4 (HC.out.below (below_boxed HB4.out)) HTA.out HWA.out).mono ?_
            rintro e w5 ⟨rfl, hb5⟩
            have HB5 := Lib.hid (HB4.out.trans (hb5.mono HB4.out.size))
            have HT5 := Lib.hid (HT4.out.below hb5)
            clear hb5 x0 x1 x2
            obtain ⟨x0, x1, x2⟩ := box_later HB5.out
            go_wp2_with fail
            go_ret
            exact ⟨rfl, below_boxed HB5.out⟩
        · have hk1b : decide ((1 : Int) ≤ kindT C.sts s) = false := by simp; omega
          generalize kindT C.sts s = KK at *
          go_wp2_with fail
          refine (enterSet_any t 0 (.slice none 0 0) _ C [] [t0] _ HT.out HOK.out HFF.out (RowsAt.nil _) (by simp) (HINI.out.below (below_boxed HB3.out)) (by simp)).mono ?_
          rintro e w4 ⟨rfl, hb4⟩
          have HB4 := Lib.hid (HB3.out.trans (hb4.mono HB3.out.size))
          have HT4 := Lib.hid (HT.out.below hb4)
          rw [HA1S.out]
          clear hb4 x0 x1 x2 c0 c1 c2 c3 c4
          obtain ⟨x0, x1, x2⟩ := box_later HB4.out
          go_wp2_with fail
          rw [HSUMA.out]
          refine (rwhole_any C.vars _ _ C (addS A1 0) w4 (HC.out.below (below_boxed HB4.out)) HTA.out HWA.out).mono ?_
          rintro e w5 ⟨rfl, hb5⟩
          have HB5 := Lib.hid (HB4.out.trans (hb5.mono HB4.out.size))
          have HT5 := Lib.hid (HT4.out.below hb5)
          clear hb5 x0 x1 x2
          obtain ⟨x0, x1, x2⟩ := box_later HB5.out
          go_wp2_with fail
          go_ret
          exact ⟨rfl, below_boxed HB5.out⟩
      · have HOK := Lib.hid hok
        clear hok
        go_enter Tryz.func5, Tryz.ntmps5
        go_wp2_with fail
        refine (upS_any _ HL0.out).mono ?_
        rintro e w1 ⟨rfl, hb1⟩
        obtain ⟨x0, x1, x2⟩ := box_later hb1
        have HB1 := Lib.hid hb1
        clear hb1
        go_wp2_with fail
        refine (HF.out _ HB1.out).mono ?_
        rintro e w2 ⟨rfl, hb2⟩
        have hB2 := HB1.out.trans (hb2.mono HB1.out.size)
        clear x0 x1 x2
        obtain ⟨x0, x1, x2⟩ := box_later hB2
        have HB2 := Lib.hid hB2
        rw [HFF.out]
        clear hb2 hB2
        go_wp2_with fail
        refine (HCK.out _ HB2.out).mono ?_
        intro e w3 hp
        obtain ⟨hb3, hv⟩ := npost_no hp HOK.out
        have HB3 := Lib.hid (HB2.out.trans (hb3.mono HB2.out.size))
        clear hb3 hp x0 x1 x2
        rcases hv with ⟨p, rfl⟩ | ⟨p, rfl⟩
        · go_wp2_with fail
          go_ret
          exact ⟨rfl, below_boxed HB3.out⟩
        · go_wp2_with fail
          go_ret
          exact ⟨rfl, below_boxed HB3.out⟩
end Go.Proofs.YtdkmloldajhdaaaGreatDoor
