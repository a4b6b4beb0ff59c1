/- What is entered is whole, plainly: below a state, and up to another one. No program in this text. -/
import Derived.Test.YtdkmloldajhdaaaGreatDoorSpure
namespace Go.Proofs.YtdkmloldajhdaaaGreatDoor
set_option linter.unusedVariables false

def hasS (A : Nat → Bool) (s : Int) : Bool := decide (0 ≤ s) && A s.toNat
/-- a state, or what is in it -/
def Sub (S : List St) (y s : Int) : Prop := y = s ∨ cIn S y s = true
theorem hasS_add {A : Nat → Bool} {s y : Int} (hs : 0 ≤ s) : hasS (addS A s) y = (hasS A y || decide (y = s)) := by
  unfold hasS addS
  by_cases h : 0 ≤ y
  · have e : ((y.toNat : Nat) : Int) = y := by omega
    simp [h, e]
  · have : ¬ y = s := by omega
    simp [h, this]
theorem hasS_le {A B : Nat → Bool} (h : Le A B) {s : Int} (hs : hasS A s = true) : hasS B s = true := by
  unfold hasS at hs ⊢
  simp only [Bool.and_eq_true, decide_eq_true_eq] at hs ⊢
  exact ⟨hs.1, h _ hs.2⟩
theorem hasS_nat (A : Nat → Bool) (k : Nat) : hasS A (k : Int) = A k := by unfold hasS; simp
theorem cIn_tr {S : List St} {a b c : Int} (h : cIn S a b = true) (k : cIn S b c = true) : cIn S a c = true := cIn_trans a.toNat a b c (Nat.le_refl _) h k
theorem Sub.trans {S : List St} {a b c : Int} (h : Sub S a b) (k : Sub S b c) : Sub S a c := by
  rcases h with rfl | h
  · exact k
  · rcases k with rfl | k
    · exact .inr h
    · exact .inr (cIn_tr h k)
theorem Sub.in_ {S : List St} {a b c : Int} (h : Sub S a b) (k : cIn S b c = true) : cIn S a c = true := by
  rcases h with rfl | h
  · exact k
  · exact cIn_tr h k
theorem cIn_self {S : List St} {a : Int} (h : cIn S a a = true) : False := by have := cIn_range h; omega
theorem child {S : List St} {s : Int} : ∀ (n : Nat) (x : Int), x.toNat ≤ n → cIn S x s = true → ∃ c, cUp S c = s ∧ isSt S c = true ∧ Sub S x c := by
  intro n
  induction n with
  | zero => intro x hn h; have := cIn_range h; omega
  | succ n ih =>
    intro x hn h
    obtain ⟨h1, h2⟩ := (cIn_iff _ _ _).1 h
    obtain ⟨p1, p2, p3⟩ := cUp_pos h1
    rcases h2 with h2 | h2
    · exact ⟨x, h2, p1, .inl rfl⟩
    · obtain ⟨c, q1, q2, q3⟩ := ih (cUp S x) (by omega) h2
      refine ⟨c, q1, q2, .inr ?_⟩
      rcases q3 with q3 | q3
      · exact (cIn_iff _ _ _).2 ⟨h1, .inl q3⟩
      · exact (cIn_iff _ _ _).2 ⟨h1, .inr q3⟩
theorem child_of {S : List St} {s x : Int} (h : cIn S x s = true) : ∃ c, cUp S c = s ∧ isSt S c = true ∧ Sub S x c := child x.toNat x (Nat.le_refl _) h
theorem line {S : List St} {a b : Int} : ∀ (n : Nat) (x : Int), x.toNat ≤ n → cIn S x a = true → cIn S x b = true → a = b ∨ cIn S a b = true ∨ cIn S b a = true := by
  intro n
  induction n with
  | zero => intro x hn h; have := cIn_range h; omega
  | succ n ih =>
    intro x hn h k
    obtain ⟨h1, h2⟩ := (cIn_iff _ _ _).1 h
    obtain ⟨_, k2⟩ := (cIn_iff _ _ _).1 k
    have := (cUp_pos h1).2.2
    rcases h2 with h2 | h2
    · rcases k2 with k2 | k2
      · exact .inl (h2.symm.trans k2)
      · exact .inr (.inl (by rw [← h2]; exact k2))
    · rcases k2 with k2 | k2
      · exact .inr (.inr (by rw [← k2]; exact h2))
      · exact ih (cUp S x) (by omega) h2 k2
theorem up_in {S : List St} {c s : Int} (h : cUp S c = s) (hs : 0 ≤ s) : cIn S c s = true := (cIn_iff _ _ _).2 ⟨by omega, .inl h⟩
theorem one_child {S : List St} {s c d : Int} (hs : 0 ≤ s) (hc : cUp S c = s) (hd : cUp S d = s) (h : cIn S c d = true) : False := by
  obtain ⟨h1, h2⟩ := (cIn_iff _ _ _).1 h
  have hds := up_in hd hs
  have := cIn_range hds
  rcases h2 with h2 | h2
  · omega
  · rw [hc] at h2; have := cIn_range h2; omega
/-- what is in two children is in one -/
theorem sub_one {S : List St} {s c d x : Int} (hs : 0 ≤ s) (hc : cUp S c = s) (hd : cUp S d = s) (h : Sub S x c) (k : Sub S x d) : c = d := by
  rcases h with rfl | h
  · rcases k with k | k
    · exact k
    · exact (one_child hs hc hd k).elim
  · rcases k with rfl | k
    · exact (one_child hs hd hc h).elim
    · rcases line x.toNat x (Nat.le_refl _) h k with h | h | h
      · exact h
      · exact (one_child hs hc hd h).elim
      · exact (one_child hs hd hc h).elim
/-- whole below a state -/
def WAt (S : List St) (A : Nat → Bool) (s x : Int) : Prop :=
  histB (stAt S x).kind = false ∧ (x ≠ s → hasS A (cUp S x) = true) ∧ ((stAt S x).kind = 2 → ∃ k, k ∈ kids S x ∧ hasS A k = true ∧ ∀ k' ∈ kids S x, hasS A k' = true → k' = k) ∧ ((stAt S x).kind = 3 → ∀ k ∈ kids S x, hasS A k = true)
def WB (S : List St) (A : Nat → Bool) (s : Int) : Prop := hasS A s = true ∧ ∀ x : Int, isSt S x = true → hasS A x = true → Sub S x s → WAt S A s x
theorem kid_sub {S : List St} (hT : Tame S) {x k : Int} (hx : isSt S x = true) (h : k ∈ kids S x) : cIn S k x = true := (hT.kid_up (isSt_iff.1 hx).1 h).2.2.2.2
theorem WB.congr {S : List St} (hT : Tame S) {A B : Nat → Bool} {s : Int} (h : WB S A s) (hAB : ∀ y, Sub S y s → hasS B y = hasS A y) : WB S B s := by
  refine ⟨by rw [hAB s (.inl rfl)]; exact h.1, fun x hx hB hs => ?_⟩
  obtain ⟨h1, h2, h3, h4⟩ := h.2 x hx (by rw [← hAB x hs]; exact hB) hs
  have hk : ∀ k ∈ kids S x, hasS B k = hasS A k := fun k hk => hAB k (.inr (by
    have := kid_sub hT hx hk
    rcases hs with rfl | hs
    · exact this
    · exact cIn_tr this hs))
  refine ⟨h1, fun hne => ?_, fun h2' => ?_, fun h3' k hk' => by rw [hk k hk']; exact h4 h3' k hk'⟩
  · rw [hAB]
    · exact h2 hne
    · rcases hs with rfl | hs
      · exact absurd rfl hne
      · rcases ((cIn_iff _ _ _).1 hs).2 with h | h
        · exact .inl h
        · exact .inr h
  · obtain ⟨k, q1, q2, q3⟩ := h3 h2'
    exact ⟨k, q1, by rw [hk k q1]; exact q2, fun k' hk' hB' => q3 k' hk' (by rw [← hk k' hk']; exact hB')⟩
/-- put together of what is whole below the children: a Parallel -/
theorem WB.par {S : List St} (hT : Tame S) {A : Nat → Bool} {s : Int} (hs : isSt S s = true) (hk : (stAt S s).kind = 3) (hA : hasS A s = true) (hw : ∀ k ∈ kids S s, WB S A k)
    (hin : ∀ y, isSt S y = true → cIn S y s = true → hasS A y = true → ∃ k ∈ kids S s, Sub S y k) : WB S A s := by
  refine ⟨hA, fun x hx hxA hsub => ?_⟩
  rcases hsub with rfl | hsub
  · exact ⟨histB_23 (.inr hk), fun h => absurd rfl h, fun h => by omega, fun _ k hk' => (hw k hk').1⟩
  · obtain ⟨k, hk', hsk⟩ := hin x hx hsub hxA
    obtain ⟨h1, h2, h3, h4⟩ := (hw k hk').2 x hx hxA hsk
    refine ⟨h1, fun _ => ?_, h3, h4⟩
    by_cases hxk : x = k
    · rw [hxk, (hT.kid_up (isSt_iff.1 hs).1 hk').2.1]; exact hA
    · exact h2 hxk
/-- a Compound -/
theorem WB.comp {S : List St} (hT : Tame S) {A : Nat → Bool} {s q : Int} (hs : isSt S s = true) (hk : (stAt S s).kind = 2) (hA : hasS A s = true) (hq : q ∈ kids S s) (hw : WB S A q)
    (hin : ∀ y, isSt S y = true → cIn S y s = true → hasS A y = true → Sub S y q) : WB S A s := by
  have hs0 := (isSt_iff.1 hs).1
  have hqu := (hT.kid_up hs0 hq).2.1
  refine ⟨hA, fun x hx hxA hsub => ?_⟩
  rcases hsub with rfl | hsub
  · refine ⟨histB_23 (.inl hk), fun h => absurd rfl h, fun _ => ⟨q, hq, hw.1, fun k' hk' hA' => ?_⟩, fun h => by omega⟩
    obtain ⟨c1, c2, c3, c4, c5⟩ := hT.kid_up hs0 hk'
    exact sub_one hs0 c2 hqu (.inl rfl) (hin k' c1 c5 hA')
  · have hsk := hin x hx hsub hxA
    obtain ⟨h1, h2, h3, h4⟩ := hw.2 x hx hxA hsk
    refine ⟨h1, fun _ => ?_, h3, h4⟩
    by_cases hxk : x = q
    · rw [hxk, hqu]; exact hA
    · exact h2 hxk
theorem WB.leaf {S : List St} {A : Nat → Bool} {s : Int} (hs : isSt S s = true) (hh : histB (stAt S s).kind = false) (h2 : (stAt S s).kind ≠ 2) (h3 : (stAt S s).kind ≠ 3) (hA : hasS A s = true) (hin : ∀ y, isSt S y = true → cIn S y s = true → hasS A y = false) : WB S A s := by
  refine ⟨hA, fun x hx hxA hsub => ?_⟩
  rcases hsub with rfl | hsub
  · exact ⟨hh, fun h => absurd rfl h, fun h => absurd h h2, fun h => absurd h h3⟩
  · rw [hin x hx hsub] at hxA; cases hxA
/-- something is in it -/
theorem some_of {S : List St} {A : Nat → Bool} {k y : Int} (hy : isSt S y = true) (hA : hasS A y = true) (h : cIn S y k = true) : someD S A k = true := by
  obtain ⟨j, rfl, hj⟩ := isSt_nat' hy
  unfold someD
  rw [List.any_eq_true]
  exact ⟨j, List.mem_range.2 hj, by rw [hasS_nat] at hA; rw [hA, h]; rfl⟩
where
  isSt_nat' {S : List St} {s : Int} (h : isSt S s = true) : ∃ k : Nat, s = (k : Int) ∧ k < S.length := by
    have := isSt_iff.1 h
    exact ⟨s.toNat, by omega, by omega⟩
theorem some_not {S : List St} {A : Nat → Bool} {k : Int} (h : ∀ y, isSt S y = true → cIn S y k = true → hasS A y = false) : someD S A k = false := by
  unfold someD
  rw [List.any_eq_false]
  intro x hx
  have hlt := List.mem_range.1 hx
  intro hc
  simp only [Bool.and_eq_true] at hc
  have := h (x : Int) (isSt_iff.2 ⟨by omega, by omega⟩) hc.2
  rw [hasS_nat, hc.1] at this
  cases this
theorem dB_leaf {S : List St} {H : List Nat} (f : Nat) {A : Nat → Bool} {s : Int} (hs : isSt S s = true) (hh : histB (stAt S s).kind = false) (h2 : (stAt S s).kind ≠ 2) (h3 : (stAt S s).kind ≠ 3) : dB S H (f + 1) A s = addS A s := by
  rw [dB, if_neg (by rw [hs]; simp), if_neg (by rw [hh]; simp), if_neg h2, if_neg h3]
theorem add_same {A : Nat → Bool} {s : Int} (h : hasS A s = true) : addS A s = A := add_id fun k hk => by rw [← hasS_nat A k, hk]; exact h
/-- where it is whole nothing is added -/
theorem step_id {S : List St} (hT : Tame S) {H : List Nat} {f : Nat} {A : Nat → Bool} {k : Int} (hs : isSt S k = true) (h : WB S A k) : kidStep (someD S) (dB S H (f + 1)) A k = A := by
  obtain ⟨h1, _, h3, h4⟩ := h.2 k hs h.1 (.inl rfl)
  unfold kidStep
  split
  · rfl
  · rename_i hn
    by_cases h23 : (stAt S k).kind = 2 ∨ (stAt S k).kind = 3
    · exfalso
      refine hn ?_
      have hex : ∃ q, q ∈ kids S k ∧ hasS A q = true := by
        rcases h23 with h2 | h3'
        · obtain ⟨q, q1, q2, _⟩ := h3 h2
          exact ⟨q, q1, q2⟩
        · obtain ⟨q, hq⟩ := List.exists_mem_of_ne_nil _ (hT.kid k hs (.inr h3'))
          exact ⟨q, hq, h4 h3' q hq⟩
      obtain ⟨q, q1, q2⟩ := hex
      obtain ⟨c1, c2, c3, c4, c5⟩ := hT.kid_up (isSt_iff.1 hs).1 q1
      exact some_of c1 q2 c5
    · rw [dB_leaf f hs h1 (fun h => h23 (.inl h)) (fun h => h23 (.inr h))]
      exact add_same h.1
/-! ### what is left as it was -/
def Fr (y : Nat) (G : (Nat → Bool) → (Nat → Bool)) : Prop := ∀ A, G A y = A y
theorem fr_add {y : Nat} {s : Int} (h : ¬ (y : Int) = s) : Fr y (fun A => addS A s) := fun A => by simp [addS, h]
theorem fr_comp {y : Nat} {g h : (Nat → Bool) → (Nat → Bool)} (hg : Fr y g) (hh : Fr y h) : Fr y (fun A => h (g A)) := fun A => (hh (g A)).trans (hg A)
theorem fr_fold {y : Nat} {α : Type} (G : (Nat → Bool) → α → (Nat → Bool)) : ∀ (L : List α), (∀ x ∈ L, Fr y fun A => G A x) → Fr y fun A => L.foldl G A
  | [], _ => fun _ => rfl
  | x :: L, h => fr_comp (h x (List.mem_cons_self ..)) (fr_fold G L fun z hz => h z (List.mem_cons_of_mem _ hz))
section
variable {S : List St} {F : (Nat → Bool) → Int → (Nat → Bool)} {y : Nat}
theorem fr_kids (p : Int) (h : ∀ k ∈ kids S p, Fr y fun A => F A k) : Fr y fun A => kidsW S (someD S) F p A := fr_fold _ _ fun k hk A => by
  show kidStep (someD S) F A k y = A y
  unfold kidStep
  split
  · rfl
  · exact h k hk A
theorem fr_up (top : Int) : ∀ L : List Int, (∀ p ∈ L.takeWhile (fun x => decide (x ≠ top)), ¬ (y : Int) = p ∧ ∀ k ∈ kids S p, Fr y fun A => F A k) → Fr y fun A => upW S (someD S) addS F top L A
  | [], _ => fun _ => rfl
  | p :: L, h => fun A => by
    show upW S (someD S) addS F top (p :: L) A y = A y
    rw [upW]
    by_cases he : p = top
    · rw [if_pos he]
    · rw [if_neg he]
      rw [List.takeWhile_cons, if_pos (by simpa using he)] at h
      obtain ⟨h1, h2⟩ := h p (List.mem_cons_self ..)
      have hr := fr_up top L (fun q hq => h q (List.mem_cons_of_mem _ hq)) (upStep S (someD S) addS F A p)
      refine hr.trans ?_
      unfold upStep
      split
      · exact (fr_kids p h2 (addS A p)).trans (fr_add h1 A)
      · exact fr_add h1 A
end
theorem all_one {S : List St} {F : (Nat → Bool) → Int → (Nat → Bool)} (t top : Int) (A : Nat → Bool) : allW S (someD S) addS F [t] top A = upW S (someD S) addS F top (ups S t) (F A t) := rfl
theorem dB_frame {S : List St} (hT : Tame S) {H : List Nat} {y : Nat} : ∀ (f : Nat) (s : Int), isSt S s = true → histB (stAt S s).kind = false → ¬ Sub S (y : Int) s → Fr y fun A => dB S H f A s
  | 0, _, _, _, _ => fun _ => rfl
  | f + 1, s, hs, hh, hy => fun A => by
    show dB S H (f + 1) A s y = A y
    have hys : ¬ (y : Int) = s := fun h => hy (.inl h)
    have hkids : ∀ p, isSt S p = true → Sub S p s → ∀ k ∈ kids S p, Fr y fun A => dB S H f A k := fun p hp hsub k hk => by
      obtain ⟨c1, c2, c3, c4, c5⟩ := hT.kid_up (isSt_iff.1 hp).1 hk
      refine dB_frame hT f k c1 c3 fun h => hy ?_
      exact h.trans (Sub.trans (.inr c5) hsub)
    rw [dB, if_neg (by rw [hs]; simp), if_neg (by rw [hh]; simp)]
    split
    · rename_i h2
      obtain ⟨t, h1, t1, t2, t3⟩ := hT.ini2 s hs h2
      rw [h1, all_one]
      have hu := fr_up (S := S) (F := dB S H f) (y := y) s (ups S t) (fun p hp => by
        have hps := ups_ahead t3 p hp
        obtain ⟨p1, p2, p3⟩ := up_state hT (List.takeWhile_subset _ hp)
        exact ⟨fun h => hy (by rw [h]; exact .inr hps), hkids p p1 (.inr hps)⟩) (dB S H f (addS A s) t)
      refine hu.trans ?_
      exact (dB_frame hT f t t1 t2 (fun h => hy (h.trans (.inr t3))) (addS A s)).trans (fr_add hys A)
    · split
      · exact (fr_kids s (hkids s hs (.inl rfl)) (addS A s)).trans (fr_add hys A)
      · exact fr_add hys A
theorem fr_has {y : Int} {G : (Nat → Bool) → (Nat → Bool)} (h : 0 ≤ y → Fr y.toNat G) (A : Nat → Bool) : hasS (G A) y = hasS A y := by
  unfold hasS
  by_cases hy : 0 ≤ y
  · rw [h hy A]
  · simp [hy]
/-! ### it is whole -/
/-- what adds below the states in c is known to make them whole -/
structure FGood (S : List St) (F : (Nat → Bool) → Int → (Nat → Bool)) (c : Int) : Prop where
  whole : ∀ k, isSt S k = true → histB (stAt S k).kind = false → cIn S k c = true → ∀ A, (∀ y, isSt S y = true → Sub S y k → hasS A y = false) → WB S (F A k) k
  frame : ∀ k, isSt S k = true → histB (stAt S k).kind = false → cIn S k c = true → ∀ y : Int, ¬ Sub S y k → ∀ A, hasS (F A k) y = hasS A y
  same : ∀ k, isSt S k = true → histB (stAt S k).kind = false → cIn S k c = true → ∀ A, WB S A k → kidStep (someD S) F A k = A
theorem kids_loop {S : List St} (hT : Tame S) {F : (Nat → Bool) → Int → (Nat → Bool)} {c p : Int} (hF : FGood S F c) (hp : isSt S p = true) (hpc : Sub S p c) : ∀ (L : List Int), (∀ k ∈ L, k ∈ kids S p) → ∀ A, (∀ k ∈ L, WB S A k ∨ ∀ y, isSt S y = true → Sub S y k → hasS A y = false) →
    (∀ k ∈ L, WB S (L.foldl (kidStep (someD S) F) A) k) ∧ ∀ y : Int, (∀ k ∈ L, ¬ Sub S y k) → hasS (L.foldl (kidStep (someD S) F) A) y = hasS A y
  | [], _, A, _ => ⟨fun k hk => (by cases hk), fun _ _ => rfl⟩
  | k :: L, hL, A, hA => by
    have hp0 := (isSt_iff.1 hp).1
    obtain ⟨c1, c2, c3, c4, c5⟩ := hT.kid_up hp0 (hL k (List.mem_cons_self ..))
    have hkc : cIn S k c = true := by
      rcases hpc with rfl | hpc
      · exact c5
      · exact cIn_tr c5 hpc
    have hA1 : WB S (kidStep (someD S) F A k) k ∧ ∀ y : Int, ¬ Sub S y k → hasS (kidStep (someD S) F A k) y = hasS A y := by
      rcases hA k (List.mem_cons_self ..) with h | h
      · rw [hF.same k c1 c3 hkc A h]; exact ⟨h, fun _ _ => rfl⟩
      · have hn := some_not (S := S) (A := A) (k := k) fun y hy hin => h y hy (.inr hin)
        have he : kidStep (someD S) F A k = F A k := by unfold kidStep; rw [if_neg (by rw [hn]; simp)]
        rw [he]
        exact ⟨hF.whole k c1 c3 hkc A h, fun y hy => hF.frame k c1 c3 hkc y hy A⟩
    have hother : ∀ k' ∈ L, k' ≠ k → ∀ y, Sub S y k' → ¬ Sub S y k := fun k' hk' hne y h1 h2 =>
      hne (sub_one hp0 (hT.kid_up hp0 (hL k' (List.mem_cons_of_mem _ hk'))).2.1 c2 h1 h2)
    obtain ⟨r1, r2⟩ := kids_loop hT hF hp hpc L (fun x hx => hL x (List.mem_cons_of_mem _ hx)) (kidStep (someD S) F A k) (fun k' hk' => by
      by_cases hkk : k' = k
      · left; rw [hkk]; exact hA1.1
      · rcases hA k' (List.mem_cons_of_mem _ hk') with h | h
        · left; exact h.congr hT fun y hy => hA1.2 y (hother k' hk' hkk y hy)
        · right; intro y hy hs; rw [hA1.2 y (hother k' hk' hkk y hs)]; exact h y hy hs)
    rw [List.foldl_cons]
    refine ⟨fun k' hk' => ?_, fun y hy => ?_⟩
    · rcases List.mem_cons.1 hk' with rfl | hk'
      · by_cases hin : k' ∈ L
        · exact r1 k' hin
        · exact hA1.1.congr hT fun y hy => r2 y fun k2 hk2 h2 => hother k2 hk2 (fun e => hin (by rw [← e]; exact hk2)) y h2 hy
      · exact r1 k' hk'
    · rw [r2 y fun k2 hk2 => hy k2 (List.mem_cons_of_mem _ hk2)]
      exact hA1.2 y (hy k (List.mem_cons_self ..))
/-- the way up to a Compound -/
theorem climb {S : List St} (hT : Tame S) {F : (Nat → Bool) → Int → (Nat → Bool)} {c : Int} (hc : isSt S c = true) (hF : FGood S F c) : ∀ (n : Nat) (p q : Int), (p + 1).toNat ≤ n → cUp S q = p → (p = c ∨ cIn S p c = true) → isSt S q = true → histB (stAt S q).kind = false →
    ∀ A, WB S A q → (∀ y, isSt S y = true → cIn S y c = true → hasS A y = true → Sub S y q) →
    ∃ q', q' ∈ kids S c ∧ WB S (upW S (someD S) addS F c (upsF S n p) A) q' ∧ ∀ y, isSt S y = true → cIn S y c = true → hasS (upW S (someD S) addS F c (upsF S n p) A) y = true → Sub S y q'
  | 0, p, q, hn, hu, hpc, hq, hh, A, hw, hin => by
    have hc0 := (isSt_iff.1 hc).1
    rcases hpc with rfl | h
    · omega
    · have := cIn_range h; omega
  | n + 1, p, q, hn, hu, hpc, hq, hh, A, hw, hin => by
    have hc0 := (isSt_iff.1 hc).1
    have hp0 : 0 ≤ p := by rcases hpc with rfl | h; exact hc0; have := cIn_range h; omega
    rw [upsF, if_neg (by omega), upW]
    by_cases he : p = c
    · rw [if_pos he]
      exact ⟨q, hT.mem_kids (by rw [hu, he]) hc0 hh, hw, hin⟩
    · rw [if_neg he]
      have hpin : cIn S p c = true := by rcases hpc with h | h; exact absurd h he; exact h
      have hqp := up_in hu hp0
      have hp : isSt S p = true := by
        have := cIn_range hpin
        exact this.2.2
      have hqk : q ∈ kids S p := hT.mem_kids hu hp0 hh
      have hqc := cIn_tr hqp hpin
      have hpq : ∀ y, Sub S y q → y ≠ p := fun y hy hyp => by
        rw [hyp] at hy
        rcases hy with h | h
        · rw [h] at hqp; exact cIn_self hqp
        · exact cIn_self (cIn_tr h hqp)
      have hw1 : WB S (addS A p) q := hw.congr hT fun y hy => by rw [hasS_add hp0]; simp [hpq y hy]
      have hk23 : (stAt S p).kind = 2 ∨ (stAt S p).kind = 3 := by have := hT.kpar q (by omega); rwa [hu] at this
      have hhp := histB_23 hk23
      have hadd : ∀ y, isSt S y = true → cIn S y c = true → hasS (addS A p) y = true → y = p ∨ Sub S y q := fun y hy hyc hA => by
        rw [hasS_add hp0] at hA
        simp only [Bool.or_eq_true, decide_eq_true_eq] at hA
        rcases hA with hA | hA
        · exact .inr (hin y hy hyc hA)
        · exact .inl hA
      have hself : hasS (addS A p) p = true := by rw [hasS_add hp0]; simp
      obtain ⟨hA2, hin2⟩ : WB S (upStep S (someD S) addS F A p) p ∧ ∀ y, isSt S y = true → cIn S y c = true → hasS (upStep S (someD S) addS F A p) y = true → Sub S y p := by
        unfold upStep
        by_cases h3 : (stAt S p).kind = 3
        · rw [if_pos h3]
          have hpre : ∀ k ∈ kids S p, WB S (addS A p) k ∨ ∀ y, isSt S y = true → Sub S y k → hasS (addS A p) y = false := fun k hk => by
            by_cases hkq : k = q
            · left; rw [hkq]; exact hw1
            · right
              intro y hy hs
              have hkp := (hT.kid_up hp0 hk).2.2.2.2
              have hyc : cIn S y c = true := hs.in_ (cIn_tr hkp hpin)
              cases hA : hasS (addS A p) y with
              | false => rfl
              | true =>
                exfalso
                rcases hadd y hy hyc hA with h | h
                · rw [h] at hs
                  rcases hs with hs | hs
                  · rw [← hs] at hkp; exact cIn_self hkp
                  · exact cIn_self (cIn_tr hs hkp)
                · exact hkq (sub_one hp0 (hT.kid_up hp0 hk).2.1 hu hs h)
          obtain ⟨r1, r2⟩ := kids_loop hT hF hp (.inr hpin) (kids S p) (fun _ h => h) (addS A p) hpre
          have hout : ∀ y, isSt S y = true → cIn S y c = true → hasS (kidsW S (someD S) F p (addS A p)) y = true → y = p ∨ ∃ k ∈ kids S p, Sub S y k := fun y hy hyc hA => by
            by_cases hex : ∃ k ∈ kids S p, Sub S y k
            · exact .inr hex
            · have := r2 y fun k hk hs => hex ⟨k, hk, hs⟩
              have hA' : hasS (addS A p) y = true := by rw [← this]; exact hA
              rcases hadd y hy hyc hA' with h | h
              · exact .inl h
              · exact .inr ⟨q, hqk, h⟩
          refine ⟨WB.par hT hp h3 ?_ r1 fun y hy hyp hA => ?_, fun y hy hyc hA => ?_⟩
          · have := r2 p fun k hk hs => by
              have hkp := (hT.kid_up hp0 hk).2.2.2.2
              rcases hs with hs | hs
              · rw [← hs] at hkp; exact cIn_self hkp
              · exact cIn_self (cIn_tr hs hkp)
            show hasS ((kids S p).foldl _ (addS A p)) p = true
            rw [this]; exact hself
          · rcases hout y hy (cIn_tr hyp hpin) hA with h | h
            · rw [h] at hyp; exact (cIn_self hyp).elim
            · exact h
          · rcases hout y hy hyc hA with h | ⟨k, hk, hs⟩
            · exact .inl h
            · exact .inr (hs.in_ (hT.kid_up hp0 hk).2.2.2.2)
        · rw [if_neg h3]
          have h2 : (stAt S p).kind = 2 := by rcases hk23 with h | h; exact h; exact absurd h h3
          refine ⟨WB.comp hT hp h2 hself hqk hw1 fun y hy hyp hA => ?_, fun y hy hyc hA => ?_⟩
          · rcases hadd y hy (cIn_tr hyp hpin) hA with h | h
            · rw [h] at hyp; exact (cIn_self hyp).elim
            · exact h
          · rcases hadd y hy hyc hA with h | h
            · exact .inl h
            · exact .inr (h.in_ hqp)
      have hst := cUp_step S p hp0
      exact climb hT hc hF n (cUp S p) p (by omega) rfl ((cIn_iff _ _ _).1 hpin |>.2) hp hhp _ hA2 hin2
theorem fgood_dB {S : List St} (hT : Tame S) {H : List Nat} : ∀ (f : Nat) (c : Int), isSt S c = true → histB (stAt S c).kind = false → rk S c ≤ f → FGood S (dB S H f) c
  | 0, c, hc, hh, hr => by rw [rk_plain hh] at hr; have := isSt_iff.1 hc; omega
  | f + 1, c, hc, hh, hr => by
    refine ⟨fun s hs hhs hsc A hA => ?_, fun s hs hhs hsc y hy A => ?_, fun s hs hhs hsc A hw => step_id hT hs hw⟩
    · have hrs := rk_in hh hhs hsc
      have hF := fgood_dB hT (H := H) f s hs hhs (by omega)
      have hs0 := (isSt_iff.1 hs).1
      have hself : hasS (addS A s) s = true := by rw [hasS_add hs0]; simp
      have hbelow : ∀ y, isSt S y = true → cIn S y s = true → hasS (addS A s) y = false := fun y hy hin => by
        rw [hasS_add hs0, hA y hy (.inr hin)]
        have : ¬ y = s := fun h => by rw [h] at hin; exact cIn_self hin
        simp [this]
      rw [dB, if_neg (by rw [hs]; simp), if_neg (by rw [hhs]; simp)]
      by_cases h2 : (stAt S s).kind = 2
      · rw [if_pos h2]
        obtain ⟨t, h1, t1, t2, t3⟩ := hT.ini2 s hs h2
        rw [h1, all_one]
        have hwt := hF.whole t t1 t2 t3 (addS A s) fun y hy hsub => hbelow y hy (hsub.in_ t3)
        have hint : ∀ y, isSt S y = true → cIn S y s = true → hasS (dB S H f (addS A s) t) y = true → Sub S y t := fun y hy hin hA2 => by
          by_cases hsub : Sub S y t
          · exact hsub
          · rw [hF.frame t t1 t2 t3 y hsub, hbelow y hy hin] at hA2; cases hA2
        obtain ⟨q, q1, q2, q3⟩ := climb hT hs hF (t.toNat + 1) (cUp S t) t (by rcases cUp_le S t with h | h <;> omega) rfl ((cIn_iff _ _ _).1 t3).2 t1 t2 _ hwt hint
        refine WB.comp hT hs h2 ?_ q1 q2 q3
        exact hasS_le ((abs_up (abs_dB S H f) s (ups S t)).1 _) (hasS_le ((abs_dB S H f t).1 _) hself)
      · rw [if_neg h2]
        by_cases h3 : (stAt S s).kind = 3
        · rw [if_pos h3]
          obtain ⟨r1, r2⟩ := kids_loop hT hF hs (.inl rfl) (kids S s) (fun _ h => h) (addS A s) fun k hk => .inr fun y hy hsub => hbelow y hy (hsub.in_ (hT.kid_up hs0 hk).2.2.2.2)
          refine WB.par hT hs h3 ?_ r1 fun y hy hin hA2 => ?_
          · exact hasS_le ((abs_kids (abs_dB S H f) s).1 _) hself
          · by_cases hex : ∃ k ∈ kids S s, Sub S y k
            · exact hex
            · have := r2 y fun k hk hsub => hex ⟨k, hk, hsub⟩
              have hA2 : hasS ((kids S s).foldl (kidStep (someD S) (dB S H f)) (addS A s)) y = true := hA2
              rw [this, hbelow y hy hin] at hA2; cases hA2
        · rw [if_neg h3]
          exact WB.leaf hs hhs h2 h3 hself hbelow
    · exact fr_has (G := fun A => dB S H (f + 1) A s) (fun hy0 => dB_frame hT (f + 1) s hs hhs (by rwa [show ((y.toNat : Nat) : Int) = y by omega])) A
/-- up to the first state, of one state -/
theorem whole_one {S : List St} (hT : Tame S) (H : List Nat) (s : Int) (hs : isSt S s = true) (hh : histB (stAt S s).kind = false) (hpos : 0 < s) :
    WB S (addS (dSet S H 0 [s]) 0) 0 ∧ hasS (dSet S H 0 [s]) s = true ∧ hasS (dSet S H 0 [s]) 0 = false := by
  have h0 : isSt S 0 = true := isSt_iff.2 ⟨by omega, by have := hT.pos; omega⟩
  have hh0 : histB (stAt S 0).kind = false := histB_23 (.inl hT.first)
  have hin0 := hT.all s hs hpos
  have hF := fgood_dB hT (H := H) (S.length + 2) 0 h0 hh0 (by have := rk_le h0 hh0; omega)
  have hreal : realS S H [s] = [s] := by
    unfold realS
    rw [List.foldl_cons, List.foldl_nil]
    unfold ofS
    rw [if_neg (by rw [hs]; simp), if_pos hh]
    rfl
  have hD : dSet S H 0 [s] = upW S (someD S) addS (dB S H (S.length + 2)) 0 (ups S s) (dB S H (S.length + 2) (fun _ => false) s) := by
    unfold dSet
    rw [hreal]
    rfl
  rw [hD]
  have hemp : ∀ y, hasS (fun _ => false) y = false := fun y => by simp [hasS]
  have hwt := hF.whole s hs hh hin0 (fun _ => false) fun y _ _ => hemp y
  have hself := hwt.1
  have hint : ∀ y, isSt S y = true → cIn S y 0 = true → hasS (dB S H (S.length + 2) (fun _ => false) s) y = true → Sub S y s := fun y hy _ hA => by
    by_cases hsub : Sub S y s
    · exact hsub
    · rw [hF.frame s hs hh hin0 y hsub, hemp] at hA; cases hA
  obtain ⟨q, q1, q2, q3⟩ := climb hT h0 hF (s.toNat + 1) (cUp S s) s (by rcases cUp_le S s with h | h <;> omega) rfl ((cIn_iff _ _ _).1 hin0).2 hs hh _ hwt hint
  have hno0 : hasS (upW S (someD S) addS (dB S H (S.length + 2)) 0 (ups S s) (dB S H (S.length + 2) (fun _ => false) s)) 0 = false := by
    have hf := fr_up (S := S) (F := dB S H (S.length + 2)) (y := 0) 0 (ups S s) (fun p hp => by
      have hps := ups_ahead hin0 p hp
      obtain ⟨p1, p2, p3⟩ := up_state hT (List.takeWhile_subset _ hp)
      refine ⟨fun h => by rw [← h] at hps; exact cIn_self hps, fun k hk => ?_⟩
      obtain ⟨c1, c2, c3, c4, c5⟩ := hT.kid_up (isSt_iff.1 p1).1 hk
      exact dB_frame hT _ k c1 c3 fun hsub => by
        rcases hsub with h | h
        · have := cIn_range c5; omega
        · have := cIn_range h; omega) (dB S H (S.length + 2) (fun _ => false) s)
    have hf2 := dB_frame hT (H := H) (y := 0) (S.length + 2) s hs hh (fun hsub => by
      rcases hsub with h | h
      · omega
      · have := cIn_range h; omega) (fun _ => false)
    have : hasS (upW S (someD S) addS (dB S H (S.length + 2)) 0 (ups S s) (dB S H (S.length + 2) (fun _ => false) s)) ((0 : Nat) : Int) = false := by
      rw [hasS_nat]
      exact hf.trans hf2
    exact this
  refine ⟨?_, hasS_le ((abs_up (abs_dB S H _) 0 (ups S s)).1 _) hself, hno0⟩
  refine WB.comp hT h0 hT.first (by rw [hasS_add (by omega)]; simp) q1 ?_ fun y hy hin hA => ?_
  · refine q2.congr hT fun y hy => ?_
    rw [hasS_add (by omega)]
    have hyc : cIn S y 0 = true := hy.in_ (kid_sub hT h0 q1)
    have : ¬ y = 0 := fun h => by rw [h] at hyc; exact cIn_self hyc
    simp [this]
    rfl
  · rw [hasS_add (by omega)] at hA
    have : ¬ y = 0 := fun h => by rw [h] at hin; exact cIn_self hin
    simp [this] at hA
    exact q3 y hy hin hA
end Go.Proofs.YtdkmloldajhdaaaGreatDoor
