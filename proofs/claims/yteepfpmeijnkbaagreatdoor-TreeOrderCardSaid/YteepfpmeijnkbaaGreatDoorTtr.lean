/- Trees in memory; the contracts of tree's smallest methods: has, parent, Kind, In, isHistory, bit. -/
import Derived.Test.YteepfpmeijnkbaaGreatDoorTcc
namespace Go.Proofs.YteepfpmeijnkbaaGreatDoor
open Go.ChangeShapes Go.WideShapes Go.ChangeAt Go.RowKit
set_option linter.unusedVariables false

/-- a tree in block g -/
def TreeAt (w : World) (g : Nat) (C : Ch) : Prop := ∃ vs vt, Blk w g 55 #[.int .i64 C.vars, vs, vt] ∧ ChHas w vs vt C
theorem TreeAt.below {w w' : World} {g : Nat} {C : Ch} (h : TreeAt w g C) (hb : Below w.heap.size w w') : TreeAt w' g C := by
  obtain ⟨vs, vt, h1, h2⟩ := h
  exact ⟨vs, vt, h1.below hb h1.lt, h2.below hb⟩
def parT (S : List St) (s : Int) : Int := if isSt S s = true then (stAt S s).par else -1
def kindT (S : List St) (s : Int) : Int := if isSt S s = true then (stAt S s).kind else 0
theorem has_any (g : Nat) (s : Int) (C : Ch) (w : World) (hT : TreeAt w g C) (hl : C.sts.length ≤ 1000) :
    Calls Tryz.prog 23 #[.pointer (some ⟨g, 0, none⟩), .int .i64 s] w fun e w' => e = .returned (.bool (isSt C.sts s)) ∧ w = w' := by
  obtain ⟨vs, vt, hX, hC⟩ := hT
  obtain ⟨A, cap, rfl, hcap⟩ := RowsAt.slice hC.1
  obtain ⟨⟨x0, x1, x2⟩, -⟩ := hX.facts3
  clear hX hC
  by_cases h : 0 ≤ s
  · have h2 : decide (0 ≤ s) = true := by simpa using h
    go_enter Tryz.func23, Tryz.ntmps23
    go_wp2
    go_ret
    exact ⟨ret_bool (by unfold isSt; rw [h2]; rfl), rfl⟩
  · have h2 : decide (0 ≤ s) = false := by simpa using h
    go_enter Tryz.func23, Tryz.ntmps23
    go_wp2
    go_ret
    exact ⟨ret_bool (by unfold isSt; rw [h2]; rfl), rfl⟩
theorem parent_any (g : Nat) (s : Int) (C : Ch) (w : World) (hT : TreeAt w g C) (hl : C.sts.length ≤ 1000) :
    Calls Tryz.prog 21 #[.pointer (some ⟨g, 0, none⟩), .int .i64 s] w fun e w' => e = .returned (.int .i64 (parT C.sts s)) ∧ w = w' := by
  have HH := Lib.hid (has_any g s C w hT hl)
  obtain ⟨vs, vt, hX, hC⟩ := hT
  have HX := Lib.hid hX
  cases h : isSt C.sts s with
  | false =>
    have HI := Lib.hid h
    have hR : parT C.sts s = -1 := by unfold parT; rw [if_neg (by rw [h]; simp)]
    have HR := Lib.hid hR
    clear h hX hC hR
    go_enter Tryz.func21, Tryz.ntmps21
    go_wp2_with fail
    refine HH.out.mono ?_
    rintro e w1 ⟨rfl, rfl⟩
    rw [HI.out]
    go_wp2_with fail
    go_ret
    exact ⟨ret_int HR.out.symm, rfl⟩
  | true =>
    have HI := Lib.hid h
    obtain ⟨k, rfl, hk⟩ := isSt_nat h
    have hR : parT C.sts (k : Int) = (stAt C.sts (k : Int)).par := by unfold parT; rw [if_pos h]
    have HR := Lib.hid hR
    obtain ⟨b, o, cap, vi, ve, vx, rfl, hcap, hlt, ⟨c0, c1, c2, c3, c4⟩, _⟩ := hC.st hk
    obtain ⟨⟨x0, x1, x2⟩, -⟩ := hX.facts3
    clear h hC hX hR
    go_enter Tryz.func21, Tryz.ntmps21
    go_wp2_with fail
    refine HH.out.mono ?_
    rintro e w1 ⟨rfl, rfl⟩
    rw [HI.out]
    go_wp2_with fail
    go_ret
    exact ⟨ret_int HR.out.symm, rfl⟩
theorem kindT_any (g : Nat) (s : Int) (C : Ch) (w : World) (hT : TreeAt w g C) (hl : C.sts.length ≤ 1000) :
    Calls Tryz.prog 10 #[.pointer (some ⟨g, 0, none⟩), .int .i64 s] w fun e w' => e = .returned (.int .i64 (kindT C.sts s)) ∧ w = w' := by
  have HH := Lib.hid (has_any g s C w hT hl)
  obtain ⟨vs, vt, hX, hC⟩ := hT
  have HX := Lib.hid hX
  cases h : isSt C.sts s with
  | false =>
    have HI := Lib.hid h
    have hR : kindT C.sts s = 0 := by unfold kindT; rw [if_neg (by rw [h]; simp)]
    have HR := Lib.hid hR
    clear h hX hC hR
    go_enter Tryz.func10, Tryz.ntmps10
    go_wp2_with fail
    refine HH.out.mono ?_
    rintro e w1 ⟨rfl, rfl⟩
    rw [HI.out]
    go_wp2_with fail
    go_ret
    exact ⟨ret_int HR.out.symm, rfl⟩
  | true =>
    have HI := Lib.hid h
    obtain ⟨k, rfl, hk⟩ := isSt_nat h
    have hR : kindT C.sts (k : Int) = (stAt C.sts (k : Int)).kind := by unfold kindT; rw [if_pos h]
    have HR := Lib.hid hR
    obtain ⟨b, o, cap, vi, ve, vx, rfl, hcap, hlt, ⟨c0, c1, c2, c3, c4⟩, _⟩ := hC.st hk
    obtain ⟨⟨x0, x1, x2⟩, -⟩ := hX.facts3
    clear h hC hX hR
    go_enter Tryz.func10, Tryz.ntmps10
    go_wp2_with fail
    refine HH.out.mono ?_
    rintro e w1 ⟨rfl, rfl⟩
    rw [HI.out]
    go_wp2_with fail
    go_ret
    exact ⟨ret_int HR.out.symm, rfl⟩
theorem isHistT_any (g : Nat) (s : Int) (C : Ch) (w : World) (hT : TreeAt w g C) (hl : C.sts.length ≤ 1000) :
    Calls Tryz.prog 24 #[.pointer (some ⟨g, 0, none⟩), .int .i64 s] w fun e w' => e = .returned (.bool (histB (kindT C.sts s))) ∧ w = w' := by
  have HH := Lib.hid (kindT_any g s C w hT hl)
  generalize kindT C.sts s = K at *
  clear hT
  by_cases h : K = 5
  · subst h
    go_enter Tryz.func24, Tryz.ntmps24
    go_wp2_with fail
    refine HH.out.mono ?_
    rintro e w1 ⟨rfl, rfl⟩
    go_wp2_with fail
    go_ret
    exact ⟨rfl, rfl⟩
  · have h2 : (K == 5) = false := by simpa using h
    go_enter Tryz.func24, Tryz.ntmps24
    go_wp2_with fail
    refine HH.out.mono ?_
    rintro e w1 ⟨rfl, rfl⟩
    go_wp2_with fail
    go_ret
    exact ⟨ret_bool (by unfold histB; simp [h]; rfl), rfl⟩
/-- In a chart that may be a state's Parent is the innermost that it is in -/
def Rooted (S : List St) : Prop := ∀ s, parT S s = cUp S s
theorem rooted_of {T : ByteArray → Int → Int → Bool} {C : Ch} (h : chk T C = .ok) : Rooted C.sts := by
  intro s
  unfold parT cUp
  cases hs : isSt C.sts s with
  | false => simp
  | true =>
    obtain ⟨k, rfl, hk⟩ := isSt_nat hs
    simp only [if_true, true_and]
    by_cases h0 : k = 0
    · subst h0
      have hp := stF_par ((chk_ok h).2.1 0 hk)
      unfold parB at hp
      simp at hp
      have hp' : (stAt C.sts ((0 : Nat) : Int)).par = -1 := hp
      rw [hp']
      simp [fromB]
    · have hp := par_of h (k : Int) (by omega) (by omega)
      unfold cUp at hp
      simp only [hs, true_and] at hp
      split at hp
      · rename_i hf
        rw [if_pos hf]
      · omega
set_option maxHeartbeats 1000000 in
theorem inT_any (g : Nat) (a b : Int) (C : Ch) (w : World) (hT : TreeAt w g C) (hl : C.sts.length ≤ 1000) (hR : Rooted C.sts) :
    Calls Tryz.prog 8 #[.pointer (some ⟨g, 0, none⟩), .int .i64 a, .int .i64 b] w fun e w' => e = .returned (.bool (cIn C.sts a b)) ∧ w = w' := by
  have HA := Lib.hid (fun (s : Int) => parent_any g s C w hT hl)
  have HRT := Lib.hid hR
  have h0 : cIn C.sts a b = inF C.sts (a.toNat + 1) (cUp C.sts a) b := rfl
  have hge := cUp_ge C.sts a
  have hle := cUp_le C.sts a
  have hpos : (cUp C.sts a + 1).toNat ≤ a.toNat + 1 := by rcases hle with h | h <;> omega
  have HUP := Lib.hid (fun q => cUp_step C.sts q)
  have HGE := Lib.hid (fun q => cUp_ge C.sts q)
  generalize cIn C.sts a b = R at *
  have H0 := Lib.hid h0
  clear h0 hT hle hR
  go_enter Tryz.func8, Tryz.ntmps8
  go_wp2_with fail
  refine (HA.out a).mono ?_
  rintro e w1 ⟨rfl, rfl⟩
  rw [HRT.out a]
  generalize cUp C.sts a = u at *
  go_wp2_with fail
  go_loopw [7] (fun p wr => ∃ (n : Nat) (q : Int), -1 ≤ q ∧ (q + 1).toNat ≤ n ∧ p = .int .i64 q ∧ Hid (R = inF C.sts n q b) ∧ wr = w) (fun p _ => (intOf p + 1).toNat)
  case atStart => exact ⟨a.toNat + 1, u, hge, hpos, rfl, H0, rfl⟩
  case round =>
    obtain ⟨n, q, hq1, hn, rfl, HR, rfl⟩ := hrel
    by_cases hq : q = -1
    · have hR := HR.out
      have : inF C.sts n q b = false := by
        cases n with
        | zero => rfl
        | succ n => rw [inF, if_pos (by omega)]
      rw [this] at hR
      have HRR := Lib.hid hR
      subst hq
      clear hR this
      go_wp2_with fail
      go_ret
      exact ⟨ret_bool HRR.out.symm, rfl⟩
    · obtain ⟨m, rfl⟩ : ∃ m, n = m + 1 := ⟨n - 1, by omega⟩
      have hR := HR.out
      rw [inF, if_neg (by omega)] at hR
      have hq2 : (q != -1) = true := by simpa using hq
      by_cases hqb : q = b
      · rw [if_pos hqb] at hR
        have HRR := Lib.hid hR
        have hqb2 : (q == b) = true := by simpa using hqb
        clear hR hqb
        go_wp2_with fail
        go_ret
        exact ⟨ret_bool HRR.out.symm, rfl⟩
      · rw [if_neg hqb] at hR
        have HRR := Lib.hid hR
        have hqb2 : (q == b) = false := by simpa using hqb
        have hst := HUP.out q (by omega)
        have hg2 := HGE.out q
        clear hR hqb
        go_wp2_with fail
        refine (HA.out q).mono ?_
        rintro e w2 ⟨rfl, rfl⟩
        rw [HRT.out q]
        generalize cUp C.sts q = u2 at *
        go_wp2
        go_roundw
        case rel => exact ⟨m, u2, hg2, by omega, rfl, HRR, trivial⟩
        case measure => simp [intOf]; omega
end Go.Proofs.YteepfpmeijnkbaaGreatDoor
