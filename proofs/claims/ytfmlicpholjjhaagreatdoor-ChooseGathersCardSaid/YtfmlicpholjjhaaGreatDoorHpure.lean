/- Which transitions are ready, gathered and kept, plainly; and what follows of it: no two that are kept clash, each is ready, each was gathered, none twice; without Guards there is no mishap. No program in this text. -/
import Derived.Test.YtfmlicpholjjhaaGreatDoorSpure
import Derived.Test.YtfmlicpholjjhaaGreatDoorEtype
import Derived.Test.YtfmlicpholjjhaaGreatDoorPparse
namespace Go.Proofs.YtfmlicpholjjhaaGreatDoor
set_option linter.unusedVariables false

/-! ### ready -/
/-- whether a Guard is empty, or true; and whether there was a mishap -/
def gdA (a : Ans) (env : List Int) : Bool × Bool :=
  match a with
    | .toks o => match ans ⟨false, env, 0⟩ o with
      | .ok k n => if k = 2 then (decide (n = 1), false) else (false, true)
      | .bad _ => (false, true)
    | .form _ => (false, true)
    | .large => (false, true)
def gdV (g : ByteArray) (env : List Int) : Bool × Bool := if g.size = 0 then (true, false) else gdA (parseAns g.data.toList) env
def rdyV (env : List Int) (ev : Int) (t : Tr) : Bool × Bool := if t.ev = ev then gdV t.guard env else (false, false)
theorem gdA_not (a : Ans) (env : List Int) (h : (gdA a env).1 = true) : (gdA a env).2 = false := by
  unfold gdA at h ⊢
  cases a with
  | toks o =>
    simp only at h ⊢
    cases hv : ans ⟨false, env, 0⟩ o with
    | ok k n =>
      rw [hv] at h
      simp only at h ⊢
      split at h
      · rename_i hk; rw [if_pos hk]
      · cases h
    | bad c => rw [hv] at h; cases h
  | form k => cases h
  | large => cases h
theorem rdy_not (env : List Int) (ev : Int) (t : Tr) (h : (rdyV env ev t).1 = true) : (rdyV env ev t).2 = false := by
  unfold rdyV gdV at h ⊢
  split at h
  · rename_i he
    rw [if_pos he]
    split at h
    · rename_i hg; rw [if_pos hg]
    · rename_i hg; rw [if_neg hg]; exact gdA_not _ _ h
  · cases h
theorem rdy_empty {env : List Int} {ev : Int} {t : Tr} (h : t.guard.size = 0) : (rdyV env ev t).2 = false := by
  unfold rdyV gdV
  rw [if_pos h]
  split <;> rfl
def trAt (R : List Tr) (i : Int) : Tr := R.getD i.toNat noTr
def isTr (R : List Tr) (i : Int) : Bool := decide (0 ≤ i) && decide (i < (R.length : Int))
theorem isTr_iff {R : List Tr} {i : Int} : isTr R i = true ↔ 0 ≤ i ∧ i < (R.length : Int) := by unfold isTr; simp
theorem isTr_nat {R : List Tr} {i : Int} (h : isTr R i = true) : ∃ k : Nat, i = (k : Int) ∧ k < R.length := by
  have := isTr_iff.1 h
  exact ⟨i.toNat, by omega, by omega⟩
theorem trAt_nat {R : List Tr} {k : Nat} (h : k < R.length) : R[k]? = some (trAt R (k : Int)) := by
  unfold trAt
  simp [List.getD, List.getElem?_eq_getElem h]
/-! ### the first that is ready -/
section
variable (env : List Int) (ev : Int)
/-- of those with this Source, from the k-th on; n: how many mishaps there were -/
def frS (s : Int) : List Tr → Nat → Nat → Int × Nat
  | [], _, n => (-1, n)
  | t :: r, k, n => if t.src = s then (if (rdyV env ev t).1 = true then ((k : Int), n) else frS s r (k + 1) (n + if (rdyV env ev t).2 = true then 1 else 0)) else frS s r (k + 1) n
def frA (R : List Tr) : List Int → Nat → Int × Nat
  | [], n => (-1, n)
  | s :: r, n => if (frS env ev s R 0 n).1 = -1 then frA R r (frS env ev s R 0 n).2 else frS env ev s R 0 n
theorem frS_add (s : Int) : ∀ (r : List Tr) (k n m : Nat), frS env ev s r k (n + m) = ((frS env ev s r k m).1, n + (frS env ev s r k m).2)
  | [], k, n, m => rfl
  | t :: r, k, n, m => by
    rw [frS, frS]
    split
    · split
      · rfl
      · rw [Nat.add_assoc, frS_add s r]
    · rw [frS_add s r]
theorem frA_add (R : List Tr) : ∀ (l : List Int) (n m : Nat), frA env ev R l (n + m) = ((frA env ev R l m).1, n + (frA env ev R l m).2)
  | [], n, m => rfl
  | s :: r, n, m => by
    rw [frA, frA, frS_add]
    simp only
    split
    · rw [frA_add R r]
    · rfl
theorem frS_le (s : Int) : ∀ (r : List Tr) (k n : Nat), (frS env ev s r k n).2 ≤ n + r.length
  | [], k, n => by simp [frS]
  | t :: r, k, n => by
    rw [frS, List.length_cons]
    split
    · split
      · simp only; omega
      · refine Nat.le_trans (frS_le s r _ _) ?_
        split <;> omega
    · exact Nat.le_trans (frS_le s r _ _) (by omega)
theorem frA_le (R : List Tr) : ∀ (l : List Int) (n : Nat), (frA env ev R l n).2 ≤ n + l.length * R.length
  | [], n => by simp [frA]
  | s :: r, n => by
    rw [frA, List.length_cons, Nat.succ_mul]
    have := frS_le env ev s R 0 n
    split
    · exact Nat.le_trans (frA_le R r _) (by omega)
    · omega
/-- what is told is a place of such a one -/
theorem frS_at (s : Int) (R : List Tr) : ∀ (r : List Tr) (k n : Nat), (∀ j t, r[j]? = some t → R[k + j]? = some t) → (frS env ev s r k n).1 ≠ -1 → isTr R (frS env ev s r k n).1 = true ∧ (rdyV env ev (trAt R (frS env ev s r k n).1)).1 = true
  | [], k, n, _, h => absurd rfl h
  | t :: r, k, n, hr, h => by
    rw [frS] at h ⊢
    have hnext : ∀ j u, r[j]? = some u → R[k + 1 + j]? = some u := fun j u hu => by
      have := hr (j + 1) u (by simpa using hu)
      rwa [show k + (j + 1) = k + 1 + j by omega] at this
    split at h
    · rename_i hs
      rw [if_pos hs]
      split at h
      · rename_i hy
        rw [if_pos hy]
        have h0 := hr 0 t rfl
        rw [Nat.add_zero] at h0
        have hk := (List.getElem?_eq_some_iff.1 h0).1
        refine ⟨isTr_iff.2 ⟨by simp, by simp only; omega⟩, ?_⟩
        rw [trAt_nat hk] at h0
        injection h0 with h0
        simp only
        rw [h0]
        exact hy
      · rename_i hy
        rw [if_neg hy]
        exact frS_at s R r _ _ hnext h
    · rename_i hs
      rw [if_neg hs]
      exact frS_at s R r _ _ hnext h
theorem frA_at (R : List Tr) : ∀ (l : List Int) (n : Nat), (frA env ev R l n).1 ≠ -1 → isTr R (frA env ev R l n).1 = true ∧ (rdyV env ev (trAt R (frA env ev R l n).1)).1 = true
  | [], n, h => absurd rfl h
  | s :: r, n, h => by
    rw [frA] at h ⊢
    split at h
    · rename_i hs
      rw [if_pos hs]
      exact frA_at R r _ h
    · rename_i hs
      rw [if_neg hs]
      exact frS_at env ev s R R 0 n (fun j t h => by rwa [Nat.zero_add]) h
theorem frS_none (s : Int) : ∀ (r : List Tr) (k n : Nat), (∀ t ∈ r, t.guard.size = 0) → (frS env ev s r k n).2 = n
  | [], k, n, _ => rfl
  | t :: r, k, n, h => by
    have ih := fun k n => frS_none s r k n (fun u hu => h u (List.mem_cons_of_mem _ hu))
    rw [frS]
    split
    · split
      · rfl
      · rw [ih, rdy_empty (h t (List.mem_cons_self ..))]
        rfl
    · rw [ih]
theorem frA_none (R : List Tr) (h : ∀ t ∈ R, t.guard.size = 0) : ∀ (l : List Int) (n : Nat), (frA env ev R l n).2 = n
  | [], n => rfl
  | s :: r, n => by
    rw [frA]
    split
    · rw [frA_none R h r, frS_none env ev s R _ _ h]
    · rw [frS_none env ev s R _ _ h]
end
/-! ### what is gathered -/
def leafB (k : Int) : Bool := decide (k = 1) || decide (k = 4)
def leafP (S : List St) (n : Nat) (k : Nat) : Bool := bitN n k && leafB (stAt S (k : Int)).kind
def lvU (S : List St) (n k : Nat) : List Int := ((List.range k).filter (leafP S n)).map fun j : Nat => (j : Int)
def lvL (S : List St) (n : Nat) : List Int := lvU S n S.length
theorem lvU_succ (S : List St) (n k : Nat) : lvU S n (k + 1) = lvU S n k ++ if leafP S n k = true then [(k : Int)] else [] := by
  unfold lvU
  rw [List.range_succ, List.filter_append, List.map_append]
  by_cases h : leafP S n k = true
  · simp [h]
  · simp [h]
theorem lvU_len (S : List St) (n k : Nat) : (lvU S n k).length ≤ k := by
  unfold lvU
  rw [List.length_map]
  simpa using List.length_filter_le (leafP S n) (List.range k)
theorem lvL_is {S : List St} {n : Nat} {x : Int} (h : x ∈ lvL S n) : isSt S x = true := by
  unfold lvL lvU at h
  obtain ⟨k, hk, rfl⟩ := List.mem_map.1 h
  have := List.mem_range.1 (List.mem_filter.1 hk).1
  unfold isSt
  simp
  omega
def wayL (S : List St) (s : Int) : List Int := s :: ups S s
section
variable (C : Ch) (env : List Int) (ev : Int)
def putIn (l : List Int) (i : Int) : List Int := if i = -1 ∨ l.contains i = true then l else l ++ [i]
def gaStep (a : List Int × Nat) (s : Int) : List Int × Nat :=
  (putIn a.1 (frA env ev C.trs (wayL C.sts s) 0).1, a.2 + (frA env ev C.trs (wayL C.sts s) 0).2)
def gaL (n : Nat) : List Int × Nat := (lvL C.sts n).foldl (gaStep C env ev) ([], 0)
theorem ga_ready : ∀ (l : List Int) (a : List Int × Nat), (∀ i ∈ a.1, isTr C.trs i = true ∧ (rdyV env ev (trAt C.trs i)).1 = true) → ∀ i ∈ (l.foldl (gaStep C env ev) a).1, isTr C.trs i = true ∧ (rdyV env ev (trAt C.trs i)).1 = true
  | [], a, h => h
  | s :: r, a, h => by
    rw [List.foldl_cons]
    refine ga_ready r _ fun i hi => ?_
    unfold gaStep putIn at hi
    simp only at hi
    split at hi
    · exact h i hi
    · rename_i hn
      rcases List.mem_append.1 hi with h1 | h1
      · exact h i h1
      · obtain rfl := List.mem_singleton.1 h1
        exact frA_at env ev C.trs _ 0 (fun hc => hn (.inl hc))
theorem ga_none (h : ∀ t ∈ C.trs, t.guard.size = 0) : ∀ (l : List Int) (a : List Int × Nat), (l.foldl (gaStep C env ev) a).2 = a.2
  | [], a => rfl
  | s :: r, a => by
    rw [List.foldl_cons, ga_none h r]
    unfold gaStep
    simp only
    rw [frA_none env ev C.trs h]
    rfl
theorem gaL_ready (n : Nat) : ∀ i ∈ (gaL C env ev n).1, isTr C.trs i = true ∧ (rdyV env ev (trAt C.trs i)).1 = true :=
  ga_ready C env ev _ _ (fun i hi => by cases hi)
theorem gaL_none (n : Nat) (h : ∀ t ∈ C.trs, t.guard.size = 0) : (gaL C env ev n).2 = 0 := ga_none C env ev h _ _
theorem putIn_len (l : List Int) (i : Int) : (putIn l i).length ≤ l.length + 1 := by
  unfold putIn
  split
  · omega
  · simp
end
/-! ### what is kept -/
/-- a transition's number and Source, and what it leaves -/
structure Chc where
  num : Int
  src : Int
  left : Nat
def clB (k one : Chc) : Bool := decide (k.left &&& one.left ≠ 0)
def stayB (S : List St) (one k : Chc) : Bool := clB k one && !cIn S one.src k.src
def holdL (S : List St) (kept : List Chc) (one : Chc) : List Chc := if kept.any (stayB S one) = true then kept else kept.filter (fun k => !clB k one) ++ [one]
section
variable (C : Ch) (lf : Int → Nat)
def chOf (i : Int) : Chc := ⟨i, (trAt C.trs i).src, lf i⟩
def keptB (kept : List Chc) (i : Int) : Bool := kept.any fun k => decide (k.num = i)
def siStep (kept : List Chc) (i : Int) : List Chc := if isTr C.trs i = true ∧ keptB kept i = false then holdL C.sts kept (chOf C lf i) else kept
def siL (l : List Int) : List Chc := l.foldl (siStep C lf) []
def Apt (kept : List Chc) : Prop := kept.Pairwise fun a b => clB a b = false ∧ a.num ≠ b.num
theorem clB_comm (a b : Chc) : clB a b = clB b a := by unfold clB; rw [Nat.and_comm]
theorem hold_mem {kept : List Chc} {one x : Chc} (h : x ∈ holdL C.sts kept one) : x ∈ kept ∨ x = one := by
  unfold holdL at h
  split at h
  · exact .inl h
  · rcases List.mem_append.1 h with h1 | h1
    · exact .inl (List.mem_filter.1 h1).1
    · exact .inr (List.mem_singleton.1 h1)
theorem hold_apt {kept : List Chc} {one : Chc} (h : Apt kept) (hn : keptB kept one.num = false) : Apt (holdL C.sts kept one) := by
  unfold holdL
  split
  · exact h
  · refine List.pairwise_append.2 ⟨h.sublist List.filter_sublist, List.pairwise_singleton _ _, fun a ha b hb => ?_⟩
    obtain rfl := List.mem_singleton.1 hb
    obtain ⟨h1, h2⟩ := List.mem_filter.1 ha
    refine ⟨by simpa using h2, fun he => ?_⟩
    unfold keptB at hn
    rw [List.any_eq_false] at hn
    exact hn a h1 (by simpa using he)
theorem hold_full (kept : List Chc) (one : Chc) : holdL C.sts kept one ≠ [] := by
  unfold holdL
  split
  · rename_i h
    intro he
    rw [he] at h
    cases h
  · simp
theorem hold_len (kept : List Chc) (one : Chc) : (holdL C.sts kept one).length ≤ kept.length + 1 := by
  unfold holdL
  split
  · omega
  · rw [List.length_append]
    have := List.length_filter_le (fun k => !clB k one) kept
    simp
    omega
theorem si_step (l0 : List Int) : ∀ (l : List Int) (kept : List Chc), (∀ i ∈ l, i ∈ l0) → Apt kept → (∀ x ∈ kept, x = chOf C lf x.num ∧ x.num ∈ l0 ∧ isTr C.trs x.num = true) →
    Apt (l.foldl (siStep C lf) kept) ∧ ∀ x ∈ l.foldl (siStep C lf) kept, x = chOf C lf x.num ∧ x.num ∈ l0 ∧ isTr C.trs x.num = true
  | [], kept, _, h1, h2 => ⟨h1, h2⟩
  | i :: r, kept, h0, h1, h2 => by
    rw [List.foldl_cons]
    have h0' : ∀ j ∈ r, j ∈ l0 := fun j hj => h0 j (List.mem_cons_of_mem _ hj)
    unfold siStep
    split
    · rename_i hc
      refine si_step l0 r _ h0' (hold_apt C h1 hc.2) fun x hx => ?_
      rcases hold_mem C hx with h | rfl
      · exact h2 x h
      · exact ⟨rfl, h0 i (List.mem_cons_self ..), hc.1⟩
    · exact si_step l0 r kept h0' h1 h2
theorem siL_apt (l : List Int) : Apt (siL C lf l) ∧ ∀ x ∈ siL C lf l, x = chOf C lf x.num ∧ x.num ∈ l ∧ isTr C.trs x.num = true :=
  si_step C lf l l [] (fun _ h => h) List.Pairwise.nil (fun x h => by cases h)
theorem si_full : ∀ (l : List Int) (kept : List Chc), kept ≠ [] → l.foldl (siStep C lf) kept ≠ []
  | [], kept, h => h
  | i :: r, kept, h => by
    rw [List.foldl_cons]
    refine si_full r _ ?_
    unfold siStep
    split
    · exact hold_full C _ _
    · exact h
theorem siL_full {l : List Int} (hl : l ≠ []) (h : ∀ i ∈ l, isTr C.trs i = true) : siL C lf l ≠ [] := by
  cases l with
  | nil => exact absurd rfl hl
  | cons i r =>
    unfold siL
    rw [List.foldl_cons]
    refine si_full C lf r _ ?_
    unfold siStep
    rw [if_pos ⟨h i (List.mem_cons_self ..), rfl⟩]
    exact hold_full C _ _
theorem si_len : ∀ (l : List Int) (kept : List Chc), (l.foldl (siStep C lf) kept).length ≤ kept.length + l.length
  | [], kept => by simp
  | i :: r, kept => by
    rw [List.foldl_cons, List.length_cons]
    refine Nat.le_trans (si_len r _) ?_
    have : (siStep C lf kept i).length ≤ kept.length + 1 := by
      unfold siStep
      split
      · exact hold_len C _ _
      · omega
    omega
end
end Go.Proofs.YtfmlicpholjjhaaGreatDoor
