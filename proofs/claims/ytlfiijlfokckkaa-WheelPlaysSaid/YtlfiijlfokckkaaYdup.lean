/- What is due, plainly. -/
import Derived.Test.YtlfiijlfokckkaaYsto
import Derived.Test.YtlfiijlfokckkaaYcan
namespace Go.Proofs.Ytlfiijlfokckkaa
set_option linter.unusedVariables false

def lateB (now : Int) (t : Tm) : Bool := decide (t.tick ≤ now)
/-- what is gathered at the first i spokes behind the clock -/
def lateF (S : List Tm) (now c : Int) (i : Nat) : List Tm := (List.range i).flatMap fun j : Nat => (spk S ((c + 1 + (j : Int)) % 64).toNat).filter (lateB now)
theorem lateF_succ (S : List Tm) (now c : Int) (i : Nat) : lateF S now c (i + 1) = lateF S now c i ++ (spk S ((c + 1 + (i : Int)) % 64).toNat).filter (lateB now) := by
  unfold lateF
  rw [List.range_succ, List.flatMap_append]
  simp
theorem lateF_len (S : List Tm) (now c : Int) : ∀ i, (lateF S now c i).length ≤ i * S.length
  | 0 => by simp [lateF]
  | i + 1 => by
    rw [lateF_succ, List.length_append, Nat.succ_mul]
    have h1 := lateF_len S now c i
    have h2 := List.length_filter_le (lateB now) (spk S ((c + 1 + (i : Int)) % 64).toNat)
    have h3 := spk_len S ((c + 1 + (i : Int)) % 64).toNat
    omega
def atB (x : Int) (t : Tm) : Bool := decide (t.tick = x)
theorem filter_flat {α β : Type} (f : α → List β) (p : β → Bool) : ∀ l : List α, (l.flatMap f).filter p = l.flatMap fun a => (f a).filter p
  | [] => rfl
  | a :: l => by rw [List.flatMap_cons, List.filter_append, filter_flat f p l, List.flatMap_cons]
theorem flat_one {α : Type} (L : List α) (P : Nat → Prop) [DecidablePred P] (j0 : Nat) : ∀ n, (∀ j, j < n → (P j ↔ j = j0)) → ((List.range n).flatMap fun j => if P j then L else []) = if j0 < n then L else []
  | 0, _ => by simp
  | n + 1, h => by
    rw [List.range_succ, List.flatMap_append, flat_one L P j0 n (fun j hj => h j (by omega))]
    have hn := h n (by omega)
    by_cases e : n = j0
    · subst e
      rw [if_neg (by omega)]
      simp [hn]
    · have hp : ¬ P n := fun hc => e (hn.1 hc)
      by_cases e2 : j0 < n
      · rw [if_pos e2, if_pos (by omega)]
        simp [hp]
      · rw [if_neg e2, if_neg (by omega)]
        simp [hp]
theorem flat_none {α : Type} (P : Nat → Prop) [DecidablePred P] (n : Nat) : ((List.range n).flatMap fun j => if P j then ([] : List α) else []) = [] := by
  rw [List.flatMap_eq_nil_iff]
  intro j _
  split <;> rfl
/-- they are just those that are due -/
theorem lateF_all {S : List Tm} {now c : Int} {n : Nat} (hS : Sound c S) (hn : (n : Int) = min now (c + 64) - c) (x : Int) : (lateF S now c n).filter (atB x) = (S.filter (lateB now)).filter (atB x) := by
  have h1 : ∀ k : Nat, ((spk S k).filter (lateB now)).filter (atB x) = if x ≤ now ∧ x % 64 = (k : Int) then S.filter (atB x) else [] := fun k => by
    unfold spk
    rw [List.filter_filter, List.filter_filter]
    by_cases hc : x ≤ now ∧ x % 64 = (k : Int)
    · rw [if_pos hc]
      refine List.filter_congr fun t _ => ?_
      unfold atB lateB
      by_cases e : t.tick = x
      · subst e; simp [hc.1, hc.2]
      · simp [e]
    · rw [if_neg hc, List.filter_eq_nil_iff]
      intro t _
      unfold atB lateB
      by_cases e : t.tick = x
      · subst e
        simp only [decide_true, Bool.true_and, Bool.and_eq_true, decide_eq_true_eq]
        intro hh; exact hc ⟨hh.1, hh.2⟩
      · simp [e]
  have h2 : (S.filter (lateB now)).filter (atB x) = if x ≤ now then S.filter (atB x) else [] := by
    rw [List.filter_filter]
    by_cases hc : x ≤ now
    · rw [if_pos hc]
      refine List.filter_congr fun t _ => ?_
      unfold atB lateB
      by_cases e : t.tick = x
      · subst e; simp [hc]
      · simp [e]
    · rw [if_neg hc, List.filter_eq_nil_iff]
      intro t _
      unfold atB lateB
      by_cases e : t.tick = x
      · subst e; simp; omega
      · simp [e]
  unfold lateF
  rw [filter_flat, h2]
  simp only [h1]
  by_cases hx : x ≤ now
  · rw [if_pos hx]
    by_cases hL : S.filter (atB x) = []
    · rw [hL]
      exact flat_none (fun j : Nat => x ≤ now ∧ x % 64 = (((c + 1 + (j : Int)) % 64).toNat : Int)) n
    · obtain ⟨t, ht⟩ := List.exists_mem_of_ne_nil _ hL
      rw [List.mem_filter] at ht
      have hxt : t.tick = x := by have := ht.2; unfold atB at this; simpa using this
      have hlate := hS.late t ht.1
      rw [hxt] at hlate
      obtain ⟨j0, hj0⟩ : ∃ j0 : Nat, (j0 : Int) = (x - c - 1) % 64 := ⟨((x - c - 1) % 64).toNat, by omega⟩
      have hc0 := hS.now0
      rw [flat_one (S.filter (atB x)) (fun j => x ≤ now ∧ x % 64 = (((c + 1 + (j : Int)) % 64).toNat : Int)) j0 n (fun j hj => by constructor <;> intro h <;> omega)]
      rw [if_pos (by omega)]
  · rw [if_neg hx]
    rw [List.flatMap_eq_nil_iff]
    intro j _
    rw [if_neg (fun h => hx h.1)]
/-- those that are due, by rising At, of one At in their order -/
def DueOf (S : List Tm) (now : Int) (R : List Tm) : Prop := (∀ i j, i < j → ∀ (hj : j < R.length) (hi : i < R.length), R[i].tick ≤ R[j].tick) ∧ ∀ x, R.filter (atB x) = (S.filter (lateB now)).filter (atB x)
theorem mem_due {S : List Tm} {now : Int} {R : List Tm} (h : DueOf S now R) (t : Tm) : t ∈ R ↔ t ∈ S ∧ t.tick ≤ now := by
  have h1 : t ∈ R ↔ t ∈ R.filter (atB t.tick) := by rw [List.mem_filter]; simp [atB]
  rw [h1, h.2, List.mem_filter, List.mem_filter]
  simp [atB, lateB]
/-- there is just one such list -/
theorem due_one : ∀ (R R' : List Tm), (∀ i j, i < j → ∀ (hj : j < R.length) (hi : i < R.length), R[i].tick ≤ R[j].tick) → (∀ i j, i < j → ∀ (hj : j < R'.length) (hi : i < R'.length), R'[i].tick ≤ R'[j].tick) → (∀ x, R.filter (atB x) = R'.filter (atB x)) → R = R'
  | [], [], _, _, _ => rfl
  | [], t :: r, _, _, h => by have := h t.tick; simp [atB] at this
  | t :: r, [], _, _, h => by have := h t.tick; simp [atB] at this
  | t :: r, t' :: r', h1, h2, h => by
    have mem1 : ∀ s ∈ t :: r, t.tick ≤ s.tick := fun s hs => by
      rcases List.mem_cons.1 hs with rfl | hs
      · exact Int.le_refl _
      · obtain ⟨i, hi, rfl⟩ := List.getElem_of_mem hs
        have := h1 0 (i + 1) (by omega) (by simp; omega) (by simp)
        simpa using this
    have mem2 : ∀ s ∈ t' :: r', t'.tick ≤ s.tick := fun s hs => by
      rcases List.mem_cons.1 hs with rfl | hs
      · exact Int.le_refl _
      · obtain ⟨i, hi, rfl⟩ := List.getElem_of_mem hs
        have := h2 0 (i + 1) (by omega) (by simp; omega) (by simp)
        simpa using this
    have e1 : t' ∈ t :: r := by
      have : t' ∈ (t' :: r').filter (atB t'.tick) := by rw [List.mem_filter]; simp [atB]
      rw [← h] at this
      exact (List.mem_filter.1 this).1
    have e2 : t ∈ t' :: r' := by
      have : t ∈ (t :: r).filter (atB t.tick) := by rw [List.mem_filter]; simp [atB]
      rw [h] at this
      exact (List.mem_filter.1 this).1
    have e3 : t.tick = t'.tick := Int.le_antisymm (mem1 _ e1) (mem2 _ e2)
    have e4 : t = t' := by
      have := h t.tick
      rw [List.filter_cons, List.filter_cons, if_pos (by simp [atB]), if_pos (by simp [atB, e3])] at this
      injection this
    subst e4
    congr 1
    refine due_one r r' (fun i j hij hj hi => ?_) (fun i j hij hj hi => ?_) (fun x => ?_)
    · have := h1 (i + 1) (j + 1) (by omega) (by simp; omega) (by simp; omega)
      simpa using this
    · have := h2 (i + 1) (j + 1) (by omega) (by simp; omega) (by simp; omega)
      simpa using this
    · have := h x
      rw [List.filter_cons, List.filter_cons] at this
      by_cases e : atB x t = true
      · rw [if_pos e, if_pos e] at this
        injection this
      · rw [if_neg e, if_neg e] at this
        exact this
end Go.Proofs.Ytlfiijlfokckkaa
