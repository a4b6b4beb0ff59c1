/- What the law WheelPlays holds against the wheel, plainly. -/
import Derived.Test.YtlfiijlfokckkaaYonp
namespace Go.Proofs.Ytlfiijlfokckkaa
set_option linter.unusedVariables false

/-- a timer goes in ahead of those that are later -/
abbrev insT (D : List Tm) (p : Nat) (t : Tm) : List Tm := D.take p ++ [t] ++ D.drop p
theorem due_ins {S D : List Tm} {now : Int} {t : Tm} {p : Nat} (h : DueOf S now D) (ht : t.tick ≤ now) (hp : p ≤ D.length) (h1 : ∀ j, p ≤ j → ∀ hj : j < D.length, t.tick < D[j].tick) (h2 : p = 0 ∨ ∃ hq : p - 1 < D.length, D[p - 1].tick ≤ t.tick) : DueOf (S ++ [t]) now (insT D p t) := by
  have hlow : ∀ i, i < p → ∀ hi : i < D.length, D[i].tick ≤ t.tick := fun i hip hi => by
    rcases h2 with h2 | ⟨hq, h2⟩
    · omega
    · by_cases e : i = p - 1
      · subst e; exact h2
      · have := h.1 i (p - 1) (by omega) hq hi; omega
  have hlen : (insT D p t).length = D.length + 1 := by simp; omega
  have g1 : ∀ i (hi : i < (insT D p t).length), i < p → ∃ hi' : i < D.length, (insT D p t)[i] = D[i] := fun i hi hip => by
    refine ⟨by omega, ?_⟩
    rw [List.getElem_append_left (by simp; omega), List.getElem_append_left (by simp; omega), List.getElem_take]
  have g2 : ∀ (hi : p < (insT D p t).length), (insT D p t)[p] = t := fun hi => by
    rw [List.getElem_append_left (by simp; omega), List.getElem_append_right (by simp; omega)]
    simp [Nat.min_eq_left hp]
  have g3 : ∀ i (hi : i < (insT D p t).length), p < i → ∃ hi' : i - 1 < D.length, (insT D p t)[i] = D[i - 1] := fun i hi hip => by
    refine ⟨by omega, ?_⟩
    rw [List.getElem_append_right (by simp; omega), List.getElem_drop]
    congr 1
    simp [Nat.min_eq_left hp]
    omega
  constructor
  · intro i j hij hj hi
    rcases Nat.lt_trichotomy j p with hjp | rfl | hjp
    · obtain ⟨a, e1⟩ := g1 i hi (by omega)
      obtain ⟨b, e2⟩ := g1 j hj hjp
      rw [e1, e2]
      exact h.1 i j hij b a
    · obtain ⟨a, e1⟩ := g1 i hi hij
      rw [e1, g2 hj]
      exact hlow i hij a
    · obtain ⟨b, e2⟩ := g3 j hj hjp
      rw [e2]
      rcases Nat.lt_trichotomy i p with hip | rfl | hip
      · obtain ⟨a, e1⟩ := g1 i hi hip
        rw [e1]
        exact h.1 i (j - 1) (by omega) b a
      · rw [g2 hi]
        exact Int.le_of_lt (h1 (j - 1) (by omega) b)
      · obtain ⟨a, e1⟩ := g3 i hi hip
        rw [e1]
        exact h.1 (i - 1) (j - 1) (by omega) b a
  · intro x
    have e0 : (insT D p t).filter (atB x) = D.filter (atB x) ++ if t.tick = x then [t] else [] := by
      rw [List.filter_append, List.filter_append]
      have e1 : D.filter (atB x) = (D.take p).filter (atB x) ++ (D.drop p).filter (atB x) := by rw [← List.filter_append, List.take_append_drop]
      by_cases e : t.tick = x
      · have e2 : (D.drop p).filter (atB x) = [] := by
          rw [List.filter_eq_nil_iff]
          intro s hs
          obtain ⟨j, hj, rfl⟩ := List.getElem_of_mem hs
          rw [List.getElem_drop]
          have := h1 (p + j) (by omega) (by rw [List.length_drop] at hj; omega)
          simp [atB]
          omega
        rw [e1, e2, if_pos e]
        simp [atB, e]
      · rw [e1, if_neg e]
        simp [atB, e]
    rw [e0, h.2, List.filter_append, List.filter_append]
    congr 1
    unfold atB lateB
    by_cases e : t.tick = x
    · subst e; simp [ht]
    · by_cases e2 : t.tick ≤ now <;> simp [e]
theorem due_pass {S D : List Tm} {now : Int} {t : Tm} (h : DueOf S now D) (ht : ¬ t.tick ≤ now) : DueOf (S ++ [t]) now D := by
  refine ⟨h.1, fun x => ?_⟩
  rw [h.2, List.filter_append]
  simp [lateB, ht]
theorem rest_snoc (S : List Tm) (now : Int) (t : Tm) : restF (S ++ [t]) now = restF S now ++ if t.tick ≤ now then [] else [t] := by
  unfold restF
  rw [List.filter_append]
  by_cases h : t.tick ≤ now <;> simp [lateB, h]
/-- without the one at a place: without its id -/
theorem drop_at {S : List Tm} (hS : (S.map fun t => t.id).Nodup) {a : Nat} (ha : a < S.length) : S.take a ++ S.drop (a + 1) = dropId S S[a].id := by
  have h := List.take_append_drop a S
  have h2 : S.drop a = S[a] :: S.drop (a + 1) := List.drop_eq_getElem_cons ha
  rw [h2] at h
  have e : dropId S S[a].id = dropId (S.take a ++ S[a] :: S.drop (a + 1)) S[a].id := by rw [h]
  rw [e]
  unfold dropId
  rw [List.filter_append, List.filter_cons]
  have hn : (S.map fun t => t.id).Nodup := hS
  have n1 : ∀ t ∈ S.take a, t.id ≠ S[a].id := fun t ht he => by
    obtain ⟨i, hi, rfl⟩ := List.getElem_of_mem ht
    rw [List.length_take] at hi
    rw [List.getElem_take] at he
    have := (List.pairwise_iff_getElem.1 hn) i a (by simp; omega) (by simpa using ha) (by omega)
    simp at this
    exact this he
  have n2 : ∀ t ∈ S.drop (a + 1), t.id ≠ S[a].id := fun t ht he => by
    obtain ⟨i, hi, rfl⟩ := List.getElem_of_mem ht
    rw [List.length_drop] at hi
    rw [List.getElem_drop] at he
    have := (List.pairwise_iff_getElem.1 hn) a (a + 1 + i) (by simpa using ha) (by simp; omega) (by omega)
    simp at this
    exact this he.symm
  rw [List.filter_eq_self.2 (fun t ht => by simpa using n1 t ht), List.filter_eq_self.2 (fun t ht => by simpa using n2 t ht)]
  simp
end Go.Proofs.Ytlfiijlfokckkaa
