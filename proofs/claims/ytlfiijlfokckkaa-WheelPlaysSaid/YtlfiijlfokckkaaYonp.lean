/- What is due, tick by tick, plainly. -/
import Derived.Test.YtlfiijlfokckkaaYarg
namespace Go.Proofs.Ytlfiijlfokckkaa
set_option linter.unusedVariables false

theorem due_start {S : List Tm} {c : Int} (h : Sound c S) : DueOf S c [] := by
  refine ⟨fun i j _ hj => absurd hj (Nat.not_lt_zero _), fun x => ?_⟩
  have : S.filter (lateB c) = [] := by
    rw [List.filter_eq_nil_iff]
    intro t ht
    have := (h.late t ht).1
    simp [lateB]
    omega
  rw [this]
theorem rest_step (S : List Tm) {old new : Int} (h : old ≤ new) : restF (restF S old) new = restF S new := by
  unfold restF
  rw [List.filter_filter]
  refine List.filter_congr fun t _ => ?_
  unfold lateB
  by_cases e : t.tick ≤ new
  · simp [e]
  · have : ¬ t.tick ≤ old := by omega
    simp [e, this]
theorem rest_start {S : List Tm} {c : Int} (h : Sound c S) : restF S c = S := by
  unfold restF
  rw [List.filter_eq_self]
  intro t ht
  have := (h.late t ht).1
  simp [lateB]
  omega
theorem due_step {S A R : List Tm} {old new : Int} (hA : DueOf S old A) (hR : DueOf (restF S old) new R) (h : old ≤ new) : DueOf S new (A ++ R) := by
  refine ⟨fun i j hij hj hi => ?_, fun x => ?_⟩
  · by_cases hj' : j < A.length
    · rw [List.getElem_append_left hj', List.getElem_append_left (by omega)]
      exact hA.1 i j hij hj' (by omega)
    · have e2 : (A ++ R)[j] = R[j - A.length]'(by rw [List.length_append] at hj; omega) := List.getElem_append_right (by omega)
      rw [e2]
      by_cases hi' : i < A.length
      · rw [List.getElem_append_left hi']
        have h1 := ((mem_due hA _).1 (List.getElem_mem hi')).2
        have hj2 : j - A.length < R.length := by rw [List.length_append] at hj; omega
        have h2 := ((mem_due hR _).1 (List.getElem_mem hj2)).1
        have h3 := (List.mem_filter.1 h2).2
        simp [lateB] at h3
        omega
      · have e1 : (A ++ R)[i] = R[i - A.length]'(by rw [List.length_append] at hi; omega) := List.getElem_append_right (by omega)
        rw [e1]
        exact hR.1 (i - A.length) (j - A.length) (by omega) (by rw [List.length_append] at hj; omega) (by rw [List.length_append] at hi; omega)
  · rw [List.filter_append, hA.2, hR.2]
    unfold restF
    rw [List.filter_filter, List.filter_filter, List.filter_filter, List.filter_filter]
    by_cases hx : x ≤ old
    · have e2 : S.filter (fun t => (atB x t && lateB new t) && !lateB old t) = [] := by
        rw [List.filter_eq_nil_iff]
        intro t _
        unfold atB lateB
        by_cases e : t.tick = x
        · subst e; simp [hx]
        · simp [e]
      rw [e2, List.append_nil]
      refine List.filter_congr fun t _ => ?_
      unfold atB lateB
      by_cases e : t.tick = x
      · subst e; simp [hx]; omega
      · simp [e]
    · have e1 : S.filter (fun t => atB x t && lateB old t) = [] := by
        rw [List.filter_eq_nil_iff]
        intro t _
        unfold atB lateB
        by_cases e : t.tick = x
        · subst e; simp; omega
        · simp [e]
      rw [e1, List.nil_append]
      refine List.filter_congr fun t _ => ?_
      unfold atB lateB
      by_cases e : t.tick = x
      · subst e
        have : ¬ t.tick ≤ old := hx
        simp [this]
      · simp [e]
/-- lists of the same timers of each At are as long -/
theorem len_same {A B : List Tm} (h : ∀ x, A.filter (atB x) = B.filter (atB x)) : A.length = B.length := by
  classical
  have hp : A.Perm B := by
    rw [List.perm_iff_count]
    intro t
    have h1 : ∀ L : List Tm, List.count t L = List.count t (L.filter (atB t.tick)) := fun L => (List.count_filter (by simp [atB])).symm
    rw [h1 A, h1 B, h]
  exact hp.length_eq
theorem due_len {S R : List Tm} {now : Int} (h : DueOf S now R) : R.length + (restF S now).length = S.length := by
  rw [len_same h.2]
  clear h
  unfold restF
  induction S with
  | nil => rfl
  | cons t S ih =>
    rw [List.filter_cons, List.filter_cons, List.length_cons]
    cases lateB now t <;> simp at ih ⊢ <;> omega
/-- the timers that the law sets: the first i -/
def onceS (at_ : List Int) (i : Nat) : List Tm := (List.range i).map fun j : Nat => ⟨(j : Int), 1 + pickF (at_.getD j 0) 1000, 1 + pickF (at_.getD j 0) 1000⟩
theorem onceS_succ (at_ : List Int) (i : Nat) : onceS at_ (i + 1) = onceS at_ i ++ [⟨(i : Int), 1 + pickF (at_.getD i 0) 1000, 1 + pickF (at_.getD i 0) 1000⟩] := by
  unfold onceS
  rw [List.range_succ, List.map_append]
  rfl
theorem onceS_len (at_ : List Int) (i : Nat) : (onceS at_ i).length = i := by simp [onceS]
theorem onceS_new (at_ : List Int) (i : Nat) : hasId (onceS at_ i) (i : Int) = false := by
  unfold hasId
  rw [List.any_eq_false]
  intro t ht
  unfold onceS at ht
  obtain ⟨j, hj, rfl⟩ := List.mem_map.1 ht
  have := List.mem_range.1 hj
  simp
  omega
theorem onceS_wh (at_ : List Int) (i : Nat) : ∀ t ∈ onceS at_ i, t.wh = t.tick := by
  intro t ht
  unfold onceS at ht
  obtain ⟨j, hj, rfl⟩ := List.mem_map.1 ht
  rfl
theorem pickF_in (c : Int) {n : Int} (h : 0 < n) : 0 ≤ pickF c n ∧ pickF c n < n := ⟨Int.emod_nonneg _ (by omega), Int.emod_lt_of_pos _ h⟩
end Go.Proofs.Ytlfiijlfokckkaa
