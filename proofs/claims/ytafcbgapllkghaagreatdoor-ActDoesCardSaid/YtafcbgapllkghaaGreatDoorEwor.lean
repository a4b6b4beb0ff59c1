/- The contracts of expr.worthOfTwo and expr.worth: the number of what a token gives. -/
import Derived.Test.YtafcbgapllkghaaGreatDoorErul
import Derived.Deep.RegionWith
import Derived.RegionTactic
namespace Go.Proofs.YtafcbgapllkghaaGreatDoor
open Go.ChangeShapes Go.WideShapes Go.ChangeAt Go.RowKit
set_option linter.unusedVariables false

def wtN (k x y : Int) : Option Int :=
  if k = 3 then some (wrap64 (x + y)) else if k = 4 then some (wrap64 (x - y)) else if k = 5 then some (wrap64 (x * y))
  else if k = 6 then (if y = 0 then none else some (wrap64 (x.tdiv y))) else if k = 7 then (if y = 0 then none else some (x.tmod y))
  else some (truN (holdsB k x y))
/-- a number, or ErrZero -/
def numVal : Option Int → Value
  | some n => .tuple #[.int .i64 n, .nilIface]
  | none => .tuple #[.int .i64 0, .iface 78 (.int .i64 9)]
theorem ret_num {n : Int} {r : Option Int} (h : r = some n) : Ending.returned (.tuple #[.int .i64 n, .nilIface]) = .returned (numVal r) := by rw [h]; rfl
theorem ret_zero {r : Option Int} (h : r = none) : Ending.returned (.tuple #[.int .i64 0, .iface 78 (.int .i64 9)]) = .returned (numVal r) := by rw [h]; rfl
set_option maxHeartbeats 2000000 in
theorem wtwo_high (k x y : Int) (w : World) (hk : 8 ≤ k ∧ k ≤ 13) : Calls Tryz.prog 51 #[.int .i64 k, .int .i64 x, .int .i64 y] w fun e w' => e = .returned (numVal (wtN k x y)) ∧ w = w' := by
  have HW := Lib.hid (show wtN k x y = some (truN (holdsB k x y)) by unfold wtN; rw [if_neg (by omega), if_neg (by omega), if_neg (by omega), if_neg (by omega), if_neg (by omega)])
  have HK := Lib.hid hk
  have h1 : (k == 3) = false := by simp; omega
  have h2 : (k == 4) = false := by simp; omega
  have h3 : (k == 5) = false := by simp; omega
  have h4 : (k == 6) = false := by simp; omega
  have h5 : (k == 7) = false := by simp; omega
  clear hk
  go_enter Tryz.func51, Tryz.ntmps51
  go_wp2_with fail
  refine (holds_any k x y w HK.out).mono ?_
  rintro e w' ⟨rfl, rfl⟩
  go_wp2_with fail
  refine (etruth_any _ w).mono ?_
  rintro e w' ⟨rfl, rfl⟩
  go_wp2
  go_ret2
  exact ⟨ret_num HW.out, rfl⟩
set_option maxHeartbeats 2000000 in
theorem wtwo_low (k x y : Int) (w : World) (hk : k = 3 ∨ k = 4 ∨ k = 5) : Calls Tryz.prog 51 #[.int .i64 k, .int .i64 x, .int .i64 y] w fun e w' => e = .returned (numVal (wtN k x y)) ∧ w = w' := by
  rcases hk with rfl | rfl | rfl
  · go_enter Tryz.func51, Tryz.ntmps51
    go_wp2_with fail
    refine (add_any x y w).mono ?_
    rintro e w' ⟨rfl, rfl⟩
    go_wp2
    go_ret2
    exact ⟨ret_num rfl, rfl⟩
  · go_enter Tryz.func51, Tryz.ntmps51
    go_wp2_with fail
    refine (sub_any x y w).mono ?_
    rintro e w' ⟨rfl, rfl⟩
    go_wp2
    go_ret2
    exact ⟨ret_num rfl, rfl⟩
  · go_enter Tryz.func51, Tryz.ntmps51
    go_wp2_with fail
    refine (mul_any x y w).mono ?_
    rintro e w' ⟨rfl, rfl⟩
    go_wp2
    go_ret2
    exact ⟨ret_num rfl, rfl⟩
set_option maxHeartbeats 2000000 in
theorem wtwo_part (k x y : Int) (w : World) (hk : k = 6 ∨ k = 7) : Calls Tryz.prog 51 #[.int .i64 k, .int .i64 x, .int .i64 y] w fun e w' => e = .returned (numVal (wtN k x y)) ∧ w = w' := by
  by_cases hy : y = 0
  · subst hy
    rcases hk with rfl | rfl
    · go_enter Tryz.func51, Tryz.ntmps51
      go_wp2_with fail
      refine (div_zero x w).mono ?_
      rintro e w' ⟨rfl, rfl⟩
      go_wp2
      go_ret2
      exact ⟨ret_zero rfl, rfl⟩
    · go_enter Tryz.func51, Tryz.ntmps51
      go_wp2_with fail
      refine (mod_zero x w).mono ?_
      rintro e w' ⟨rfl, rfl⟩
      go_wp2
      go_ret2
      exact ⟨ret_zero rfl, rfl⟩
  · have hy2 : (y == 0) = false := by simpa using hy
    have HY := Lib.hid hy
    clear hy
    rcases hk with rfl | rfl
    · go_enter Tryz.func51, Tryz.ntmps51
      go_wp2_with fail
      refine (div_any x y w hy2 HY.out).mono ?_
      rintro e w' ⟨rfl, rfl⟩
      go_wp2
      go_ret2
      exact ⟨ret_num (show wtN 6 x y = some (wrap64 (x.tdiv y)) by unfold wtN; simp [HY.out]), rfl⟩
    · go_enter Tryz.func51, Tryz.ntmps51
      go_wp2_with fail
      refine (mod_any x y w hy2 HY.out).mono ?_
      rintro e w' ⟨rfl, rfl⟩
      go_wp2
      go_ret2
      exact ⟨ret_num (show wtN 7 x y = some (x.tmod y) by unfold wtN; simp [HY.out]), rfl⟩
theorem wtwo_any (k x y : Int) (w : World) (hk : 3 ≤ k ∧ k ≤ 13) : Calls Tryz.prog 51 #[.int .i64 k, .int .i64 x, .int .i64 y] w fun e w' => e = .returned (numVal (wtN k x y)) ∧ w = w' := by
  by_cases h1 : k ≤ 5
  · exact wtwo_low k x y w (by omega)
  · by_cases h2 : k ≤ 7
    · exact wtwo_part k x y w (by omega)
    · exact wtwo_high k x y w (by omega)
/-- how the numbers of what is taken make the value -/
theorem bin_num {kd ak x bk y : Int} (hk : 3 ≤ kd ∧ kd ≤ 13) (ha : Good (.ok ak x)) (hb : Good (.ok bk y)) (ht : tks (rul kd).2.1 [ak, bk] = true) :
    (∀ n, wtN kd x y = some n → binV false (kd, 0, 0) (.ok ak x) (.ok bk y) = .ok (rul kd).2.2 n) ∧ (wtN kd x y = none → binV false (kd, 0, 0) (.ok ak x) (.ok bk y) = .bad 9) := by
  have ha' : ak = 1 ∨ (ak = 2 ∧ (x = 0 ∨ x = 1)) := Or.elim ha (fun h => .inl h.1) (fun h => .inr h)
  have hb' : bk = 1 ∨ (bk = 2 ∧ (y = 0 ∨ y = 1)) := Or.elim hb (fun h => .inl h.1) (fun h => .inr h)
  clear ha hb
  obtain rfl | rfl | rfl | rfl | rfl | rfl | rfl | rfl | rfl | rfl | rfl : kd = 3 ∨ kd = 4 ∨ kd = 5 ∨ kd = 6 ∨ kd = 7 ∨ kd = 8 ∨ kd = 9 ∨ kd = 10 ∨ kd = 11 ∨ kd = 12 ∨ kd = 13 := by omega
  all_goals
    rcases ha' with rfl | ⟨rfl, rfl | rfl⟩ <;> rcases hb' with rfl | ⟨rfl, rfl | rfl⟩
    all_goals first
      | exact absurd ht (by decide)
      | (by_cases hz : y = 0 <;> simp [wtN, holdsB, rul, binV, twoV, tru, truN, hz])
      | simp [wtN, holdsB, rul, binV, twoV, tru, truN]

/-! ### worth -/
set_option maxHeartbeats 2000000 in
set_option maxRecDepth 100000 in
theorem worth_leaf (t : Tk) (of_ ve : Value) (env : List Int) (vars k n : Int) (w : World) (hv : NumsAt w ve env) (hl : env.length ≤ 1000) (ht : tak t = 0) (hn : t.2.1 ≤ 9223372036854775807) (hL : leafV ⟨false, env, vars⟩ t = .ok k n) :
    Calls Tryz.prog 30 #[.agg #[.int .i64 t.1, .int .i64 t.2.1, .int .i64 t.2.2], of_, ve] w fun e w' => e = .returned (.tuple #[.int .i64 n, .nilIface]) ∧ Below w.heap.size w w' := by
  obtain ⟨h2, h0, hk⟩ := tkk_zero ht
  obtain ⟨kd, x, a⟩ := t
  obtain ⟨A, cap, rfl, hc, hel⟩ := hv
  simp only at h2 h0 hk hn ⊢
  subst h2
  have HB := Lib.hid (fun cs => (Below.refl w.heap.size w).alloc (Nat.le_refl _) (.cells cs 68))
  rcases hk with rfl | ⟨rfl, hx⟩ | ⟨rfl, rfl⟩ | ⟨rfl, rfl⟩
  · obtain rfl : x = n := by unfold leafV at hL; simp at hL; exact hL.2
    clear hL hel
    go_enter Tryz.func30, Tryz.ntmps30
    go_wp2
    go_ret2
    exact ⟨rfl, HB.out _⟩
  · have hlt : x.toNat < env.length ∧ env.getD x.toNat 0 = n := by
      unfold leafV Md.lim at hL
      simp at hL
      by_cases h : x < (env.length : Int)
      · rw [if_pos h] at hL; injection hL with _ h3; exact ⟨by omega, by simpa using h3⟩
      · rw [if_neg h] at hL; cases hL
    obtain ⟨m, rfl⟩ : ∃ m : Nat, x = (m : Int) := ⟨x.toNat, by omega⟩
    simp only [Int.toNat_natCast] at hlt
    obtain ⟨hm, hg⟩ := hlt
    have hg2 : env[m]? = some n := by rw [← hg, List.getD, List.getElem?_eq_getElem hm]; rfl
    obtain ⟨b, o, rfl, hb, c0⟩ := hel m n hg2
    have hm2 : (m : Int) < (env.length : Int) := by omega
    have hbne : ¬ b = w.heap.size := by omega
    have c1 := ((HB.out #[.int .i64 2, .int .i64 (m : Int), .int .i64 0]).cell (p := ⟨b, o + m, none⟩) hb).trans c0
    clear hL hel hg hg2
    go_enter Tryz.func30, Tryz.ntmps30
    go_wp2
    go_ret2
    exact ⟨rfl, HB.out _⟩
  · obtain rfl : n = 1 := by unfold leafV tru truN at hL; simp at hL; exact hL.2.symm
    clear hL hel
    go_enter Tryz.func30, Tryz.ntmps30
    go_wp2_with fail
    refine (etruth_any _ _).mono ?_
    rintro e w' ⟨rfl, rfl⟩
    go_wp2
    go_ret2
    exact ⟨rfl, HB.out _⟩
  · obtain rfl : n = 0 := by unfold leafV tru truN at hL; simp at hL; exact hL.2.symm
    clear hL hel
    go_enter Tryz.func30, Tryz.ntmps30
    go_wp2_with fail
    refine (etruth_any _ _).mono ?_
    rintro e w' ⟨rfl, rfl⟩
    go_wp2
    go_ret2
    exact ⟨rfl, HB.out _⟩
set_option maxHeartbeats 2000000 in
set_option maxRecDepth 100000 in
theorem worth_un (t : Tk) (ve : Value) (k n k' n' : Int) (g q cap : Nat) (w : World) (ht : tak t = 1) (hg : g < w.heap.size) (hc : w.cell? ⟨g, q, none⟩ = some (.int .i64 n)) (hV : unV t (.ok k n) = .ok k' n') :
    Calls Tryz.prog 30 #[.agg #[.int .i64 t.1, .int .i64 t.2.1, .int .i64 t.2.2], .slice (some ⟨g, q, none⟩) 1 cap, ve] w fun e w' => e = .returned (.tuple #[.int .i64 n', .nilIface]) ∧ Below w.heap.size w w' := by
  have HB := Lib.hid (fun cs => (Below.refl w.heap.size w).alloc (Nat.le_refl _) (.cells cs 68))
  rcases tkk_one ht with rfl | rfl
  · have hn : n' = truN (n == 0) := by
      rw [unV_ok] at hV
      by_cases h : k = 2
      · rw [if_pos ⟨rfl, h⟩] at hV; injection hV with _ h2; rw [← h2]; rfl
      · rw [if_neg (by omega), if_neg (by omega)] at hV; cases hV
    subst hn
    have c1 := ((HB.out #[.int .i64 14, .int .i64 0, .int .i64 0]).cell (p := ⟨g, q, none⟩) hg).trans hc
    clear hV
    go_enter Tryz.func30, Tryz.ntmps30
    go_wp2_with fail
    refine (etruth_any _ _).mono ?_
    rintro e w' ⟨rfl, rfl⟩
    go_wp2
    go_ret2
    exact ⟨rfl, HB.out _⟩
  · have hn : n' = wrap64 (-n) := by
      rw [unV_ok] at hV
      by_cases h : k = 1
      · rw [if_neg (by omega), if_pos ⟨rfl, h⟩] at hV; injection hV with _ h2; rw [← h2]
      · rw [if_neg (by omega), if_neg (by omega)] at hV; cases hV
    subst hn
    have c1 := ((HB.out #[.int .i64 19, .int .i64 0, .int .i64 0]).cell (p := ⟨g, q, none⟩) hg).trans hc
    clear hV
    go_enter Tryz.func30, Tryz.ntmps30
    go_wp2_with fail
    refine (neg_any n _).mono ?_
    rintro e w' ⟨rfl, rfl⟩
    go_wp2
    go_ret2
    exact ⟨rfl, HB.out _⟩
set_option maxHeartbeats 4000000 in
set_option maxRecDepth 100000 in
theorem worth_bin (kd : Int) (ve : Value) (x y : Int) (g q cap : Nat) (w : World) (hk : 3 ≤ kd ∧ kd ≤ 13) (hg : g < w.heap.size) (hcap : 2 ≤ cap) (hc : w.cell? ⟨g, q, none⟩ = some (.int .i64 x)) (hd : w.cell? ⟨g, q + 1, none⟩ = some (.int .i64 y)) :
    Calls Tryz.prog 30 #[.agg #[.int .i64 kd, .int .i64 0, .int .i64 0], .slice (some ⟨g, q, none⟩) 2 cap, ve] w fun e w' => e = .returned (numVal (wtN kd x y)) ∧ Below w.heap.size w w' := by
  have HB := Lib.hid (fun cs => (Below.refl w.heap.size w).alloc (Nat.le_refl _) (.cells cs 68))
  have HK := Lib.hid hk
  have c1 := ((HB.out #[.int .i64 kd, .int .i64 0, .int .i64 0]).cell (p := ⟨g, q, none⟩) hg).trans hc
  have c2 := ((HB.out #[.int .i64 kd, .int .i64 0, .int .i64 0]).cell (p := ⟨g, q + 1, none⟩) hg).trans hd
  have h1 : (kd == 1) = false := by simp; omega
  have h2 : (kd == 2) = false := by simp; omega
  have h3 : (kd == 15) = false := by simp; omega
  have h4 : (kd == 16) = false := by simp; omega
  have h5 : (kd == 19) = false := by simp; omega
  have h6 : (kd == 14) = false := by simp; omega
  have HW := Lib.hid (fun W => wtwo_any kd x y W hk)
  generalize hr : wtN kd x y = r at *
  clear hk
  go_enter Tryz.func30, Tryz.ntmps30
  go_wp2_with fail
  cases r with
  | none =>
    have HQ := Lib.hid (fun W => (HW.out W).mono (R' := fun e w' => e = .returned (.tuple #[.int .i64 0, .iface 78 (.int .i64 9)]) ∧ w' = W) fun e w' h => ⟨h.1, h.2.symm⟩)
    go_quiet (first | (go_at_call 51; exact Calls.quiet_of_same (HQ.out _)) | fail)
    go_wp2
    go_ret2
    exact ⟨rfl, below_drewN (HB.out _) _⟩
  | some n =>
    have HQ := Lib.hid (fun W => (HW.out W).mono (R' := fun e w' => e = .returned (.tuple #[.int .i64 n, .nilIface]) ∧ w' = W) fun e w' h => ⟨h.1, h.2.symm⟩)
    go_quiet (first | (go_at_call 51; exact Calls.quiet_of_same (HQ.out _)) | fail)
    go_wp2
    go_ret2
    exact ⟨rfl, below_drewN (HB.out _) _⟩
end Go.Proofs.YtafcbgapllkghaaGreatDoor
