/- What a token's text is, said plainly; the contracts of lex.mayBe and textOf. -/
import Derived.Test.YtmiampdeniihmaaDoorSame
namespace Go.Proofs.YtmiampdeniihmaaDoor
open Go.ChangeShapes Go.WideShapes Go.ChangeAt Go.RowKit
set_option linter.unusedVariables false

/-- may a token be? -/
def mayB (t : Tk) : Bool :=
  if t.1 < 1 ∨ 18 < t.1 then false else if t.1 = 1 then decide (0 ≤ t.2.1) else if t.1 = 2 then decide (0 ≤ t.2.1) && decide (t.2.1 ≤ 25) else t.2.1 == 0
/-- its text -/
def textB (t : Tk) : List UInt8 := if t.1 = 1 then Lib.itoa t.2.1 else if t.1 = 2 then [UInt8.ofNat (97 + t.2.1.toNat)] else texts.getD t.1.toNat []

theorem mayB_out (k n a : Int) (h : k < 1 ∨ 18 < k) : mayB (k, n, a) = false := by unfold mayB; rw [if_pos h]
theorem mayB_num (k n a : Int) (h : (k == 1) = true) : mayB (k, n, a) = decide (0 ≤ n) := by
  obtain rfl : k = 1 := by simpa using h
  rfl
theorem mayB_var (k n a : Int) (h : (k == 2) = true) : mayB (k, n, a) = (decide (0 ≤ n) && decide (n ≤ 25)) := by
  obtain rfl : k = 2 := by simpa using h
  rfl
theorem mayB_else (k n a : Int) (h : 1 ≤ k ∧ k ≤ 18) (h1 : (k == 1) = false) (h2 : (k == 2) = false) : mayB (k, n, a) = (n == 0) := by
  have h1' : ¬ k = 1 := by simpa using h1
  have h2' : ¬ k = 2 := by simpa using h2
  unfold mayB; rw [if_neg (by simp; omega), if_neg h1', if_neg h2']

set_option maxHeartbeats 1000000 in
theorem mayBe_any (k n a : Int) (w : World) :
    Calls Tryd.prog 20 #[.agg #[.int .i64 k, .int .i64 n, .int .i64 a]] w fun e w' => e = .returned (.bool (mayB (k, n, a))) ∧ Below w.heap.size w w' := by
  by_cases ho : k < 1 ∨ 18 < k
  · rw [mayB_out k n a ho]
    rcases ho with ho | ho
    all_goals
      go_enter Tryd.func20, Tryd.ntmps20
      go_wp2
      go_ret
      exact ⟨rfl, (Below.refl _ _).alloc (Nat.le_refl _) _⟩
  · have ho1 : 1 ≤ k := by omega
    have ho2 : k ≤ 18 := by omega
    cases h1 : (k == 1) with
    | true =>
      rw [mayB_num k n a h1]
      go_enter Tryd.func20, Tryd.ntmps20
      go_wp2
      go_ret
      exact ⟨rfl, (Below.refl _ _).alloc (Nat.le_refl _) _⟩
    | false =>
      cases h2 : (k == 2) with
      | true =>
        rw [mayB_var k n a h2]
        by_cases h3 : 0 ≤ n
        · rw [decide_eq_true h3, Bool.true_and]
          go_enter Tryd.func20, Tryd.ntmps20
          go_wp2
          go_ret
          exact ⟨rfl, (Below.refl _ _).alloc (Nat.le_refl _) _⟩
        · rw [decide_eq_false h3, Bool.false_and]
          have h3' : n < 0 := by omega
          go_enter Tryd.func20, Tryd.ntmps20
          go_wp2
          go_ret
          exact ⟨rfl, (Below.refl _ _).alloc (Nat.le_refl _) _⟩
      | false =>
        rw [mayB_else k n a ⟨ho1, ho2⟩ h1 h2]
        go_enter Tryd.func20, Tryd.ntmps20
        go_wp2
        go_ret
        exact ⟨rfl, (Below.refl _ _).alloc (Nat.le_refl _) _⟩

theorem encode_letter (n : Int) (h0 : 0 ≤ n) (h1 : n ≤ 25) : Utf8.encode (97 + n) = bytes [UInt8.ofNat (97 + n.toNat)] := by
  have h : ∀ m : Fin 26, Utf8.encode (97 + (m.val : Int)) = bytes [UInt8.ofNat (97 + m.val)] := by decide +kernel
  have := h ⟨n.toNat, by omega⟩
  simpa [Int.toNat_of_nonneg h0] using this
set_option maxHeartbeats 1000000 in
theorem textOf_var (n a : Int) (w : World) (h0 : 0 ≤ n) (h1 : n ≤ 25) :
    Calls Tryd.prog 21 #[.agg #[.int .i64 2, .int .i64 n, .int .i64 a]] w fun e w' => e = .returned (.string (bytes [UInt8.ofNat (97 + n.toNat)])) ∧ Below w.heap.size w w' := by
  go_enter Tryd.func21, Tryd.ntmps21
  go_wp2
  go_ret
  refine ⟨?_, (Below.refl _ _).alloc (Nat.le_refl _) _⟩
  rw [← encode_letter n h0 h1]
  rfl

theorem grow_below (w : World) (k : Nat) (os : Array Obj) : Below w.heap.size w (Sort.grow (w.drewN k) os) :=
  ⟨rfl, rfl, rfl, by simp [Sort.grow], fun i hi => by
    show (w.heap ++ os)[i]? = w.heap[i]?
    rw [Array.getElem?_append_left hi]⟩
set_option maxHeartbeats 1000000 in
theorem textOf_num (n a : Int) (w : World) (hL : Laid w) (h0 : 0 ≤ n) (h1 : n ≤ 9223372036854775807) :
    Calls Tryd.prog 21 #[.agg #[.int .i64 1, .int .i64 n, .int .i64 a]] w fun e w' => e = .returned (.string (bytes (Lib.itoa n))) ∧ Below w.heap.size w w' := by
  have hb : Below w.heap.size w (w.alloc (.cells #[.int .i64 1, .int .i64 n, .int .i64 a] 40)) := (Below.refl _ _).alloc (Nat.le_refl _) _
  have HT := Lib.hid (hL.after hb).2.2.2.2
  clear hb
  go_enter Tryd.func21, Tryd.ntmps21
  go_wp2_with (go_at_call 36; refine (Tryd.strconv_FormatInt_10 n (by omega) h1 _ HT.out).mono ?_; rintro e w' ⟨rfl, kk, os, rfl⟩)
  go_ret
  exact ⟨rfl, ((Below.refl _ _).alloc (Nat.le_refl _) _).trans ((grow_below _ _ _).mono (by simp))⟩

set_option maxHeartbeats 1000000 in
theorem textOf_fix (k : Nat) (n a : Int) (w : World) (hL : Laid w) (h0 : 3 ≤ k) (h1 : k ≤ 18) :
    Calls Tryd.prog 21 #[.agg #[.int .i64 (k : Int), .int .i64 n, .int .i64 a]] w fun e w' => e = .returned (.string (bytes (texts.getD k []))) ∧ Below w.heap.size w w' := by
  have hc : (w.alloc (.cells #[.int .i64 (k : Int), .int .i64 n, .int .i64 a] 40)).cell? ⟨1, k, none⟩ = some (.string (bytes (texts.getD k []))) := by
    rw [World.cell?_alloc_lt _ _ ⟨1, k, none⟩ (by have := hL.1; simp only; omega)]; exact hL.text k (by omega)
  have e1 : ((k : Int) == 1) = false := by simp; omega
  have e2 : ((k : Int) == 2) = false := by simp; omega
  go_enter Tryd.func21, Tryd.ntmps21
  go_wp2
  go_ret
  exact ⟨rfl, (Below.refl _ _).alloc (Nat.le_refl _) _⟩

theorem mayB_range {t : Tk} (h : mayB t = true) : 1 ≤ t.1 ∧ t.1 ≤ 18 ∧ (t.1 = 1 → 0 ≤ t.2.1) ∧ (t.1 = 2 → 0 ≤ t.2.1 ∧ t.2.1 ≤ 25) ∧ (¬ t.1 = 1 → ¬ t.1 = 2 → t.2.1 = 0) := by
  unfold mayB at h
  by_cases h1 : t.1 < 1 ∨ 18 < t.1
  · rw [if_pos h1] at h; cases h
  · rw [if_neg h1] at h
    by_cases h2 : t.1 = 1
    · rw [if_pos h2] at h; simp at h; omega
    · rw [if_neg h2] at h
      by_cases h3 : t.1 = 2
      · rw [if_pos h3] at h; simp at h; omega
      · rw [if_neg h3] at h; simp at h; omega
theorem textOf_any (t : Tk) (w : World) (hL : Laid w) (hm : mayB t = true) (hn : t.2.1 ≤ 9223372036854775807) :
    Calls Tryd.prog 21 #[.agg #[.int .i64 t.1, .int .i64 t.2.1, .int .i64 t.2.2]] w fun e w' => e = .returned (.string (bytes (textB t))) ∧ Below w.heap.size w w' := by
  obtain ⟨k, n, a⟩ := t
  obtain ⟨h1, h2, h3, h4, h5⟩ := mayB_range hm
  simp only at *
  unfold textB
  simp only
  by_cases e1 : k = 1
  · subst e1; rw [if_pos rfl]; exact textOf_num n a w hL (h3 rfl) hn
  · rw [if_neg e1]
    by_cases e2 : k = 2
    · subst e2; rw [if_pos rfl]; exact textOf_var n a w (h4 rfl).1 (h4 rfl).2
    · rw [if_neg e2]
      have := textOf_fix k.toNat n a w hL (by omega) (by omega)
      rwa [show (k.toNat : Int) = k from by omega] at this
theorem nDigits_le : ∀ (k u : Nat), u < 10 ^ (k + 1) → Lib.nDigits u ≤ k + 1
  | 0, u, h => by rw [Lib.nDigits_small (by simpa using h)]; exact Nat.le_refl _
  | k + 1, u, h => by
    by_cases hs : u < 10
    · rw [Lib.nDigits_small hs]; omega
    · rw [Lib.nDigits_big hs]
      have := nDigits_le k (u / 10) (by rw [Nat.pow_succ] at h; omega)
      omega
theorem decDigits_len (u : Nat) : (Lib.decDigits u).length = Lib.nDigits u := by rw [Lib.decDigits_eq]; simp
theorem textB_len {t : Tk} (hm : mayB t = true) (hn : t.2.1 ≤ 9223372036854775807) : (textB t).length ≤ 20 := by
  obtain ⟨k, n, a⟩ := t
  obtain ⟨h1, h2, h3, h4, h5⟩ := mayB_range hm
  simp only at *
  unfold textB
  simp only
  by_cases e1 : k = 1
  · rw [if_pos e1]
    have h0 := h3 e1
    unfold Lib.itoa
    rw [if_neg (by omega), decDigits_len]
    exact nDigits_le 19 _ (by have : n.toNat < 10000000000000000000 := by omega
                              exact Nat.lt_trans this (by decide))
  · rw [if_neg e1]
    by_cases e2 : k = 2
    · rw [if_pos e2]; simp
    · rw [if_neg e2]
      have h : ∀ m : Fin 19, (texts.getD m.val []).length ≤ 20 := by decide
      exact h ⟨k.toNat, by omega⟩
end Go.Proofs.YtmiampdeniihmaaDoor
