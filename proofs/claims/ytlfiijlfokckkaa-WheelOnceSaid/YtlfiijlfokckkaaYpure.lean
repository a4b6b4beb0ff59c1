/- Timers, and what sorting them by At, stably, comes to. No function of the program in this text. -/
import Derived.Test.YtlfiijlfokckkaaYgen
import Derived.Sort.LotA
namespace Go.Proofs.Ytlfiijlfokckkaa
set_option linter.unusedVariables false

structure Tm where
  id : Int
  tick : Int
  wh : Int
instance : Inhabited Tm := ⟨⟨0, 0, 0⟩⟩

def seg (f : Nat → Tm) (a b : Nat) : List Tm := (List.range' a (b - a)).map f
def filt (f : Nat → Tm) (a b : Nat) (x : Int) : List Tm := (seg f a b).filter fun t => decide (t.tick = x)
def Srt (f : Nat → Tm) (a b : Nat) : Prop := ∀ i j, a ≤ i → i < j → j < b → (f i).tick ≤ (f j).tick
/-- all but [a, b) is the same -/
def Else (f g : Nat → Tm) (a b : Nat) : Prop := ∀ i, i < a ∨ b ≤ i → g i = f i
/-- [a, b) is sorted, stably, and all else is the same -/
structure Done (f g : Nat → Tm) (a b : Nat) : Prop where
  srt : Srt g a b
  filt : ∀ x, filt g a b x = filt f a b x
  els : Else f g a b

theorem seg_split {f : Nat → Tm} {a m b : Nat} (h1 : a ≤ m) (h2 : m ≤ b) : seg f a b = seg f a m ++ seg f m b := by
  unfold seg
  rw [← List.map_append]
  congr 1
  obtain ⟨p, rfl⟩ : ∃ p, m = a + p := ⟨m - a, by omega⟩
  obtain ⟨q, rfl⟩ : ∃ q, b = a + p + q := ⟨b - (a + p), by omega⟩
  rw [show a + p + q - a = p + q by omega, show a + p - a = p by omega, show a + p + q - (a + p) = q by omega]
  have := List.range'_append (s := a) (m := p) (n := q) (step := 1)
  rw [Nat.one_mul] at this
  exact this.symm
theorem seg_congr {f g : Nat → Tm} {a b : Nat} (h : ∀ i, a ≤ i → i < b → f i = g i) : seg f a b = seg g a b := by
  unfold seg
  refine List.map_congr_left fun i hi => ?_
  rw [List.mem_range'] at hi
  obtain ⟨k, hk, rfl⟩ := hi
  exact h _ (by omega) (by omega)
theorem seg_shift {f g : Nat → Tm} {a b n : Nat} (h : ∀ i, i < n → f (a + i) = g (b + i)) : seg f a (a + n) = seg g b (b + n) := by
  unfold seg
  rw [show a + n - a = n by omega, show b + n - b = n by omega]
  apply List.ext_getElem
  · simp
  · intro i h1 h2
    simp at h1
    simp
    exact h i h1
theorem seg_nil {f : Nat → Tm} {a b : Nat} (h : b ≤ a) : seg f a b = [] := by
  unfold seg
  rw [show b - a = 0 by omega]
  rfl
theorem mem_seg {f : Nat → Tm} {a b : Nat} {t : Tm} : t ∈ seg f a b ↔ ∃ i, a ≤ i ∧ i < b ∧ f i = t := by
  unfold seg
  simp only [List.mem_map, List.mem_range'_1]
  constructor
  · rintro ⟨i, ⟨h1, h2⟩, rfl⟩
    exact ⟨i, h1, by omega, rfl⟩
  · rintro ⟨i, h1, h2, rfl⟩
    exact ⟨i, ⟨h1, by omega⟩, rfl⟩
theorem filt_split {f : Nat → Tm} {a m b : Nat} (h1 : a ≤ m) (h2 : m ≤ b) (x : Int) : filt f a b x = filt f a m x ++ filt f m b x := by
  unfold filt
  rw [seg_split h1 h2, List.filter_append]
theorem filt_congr {f g : Nat → Tm} {a b : Nat} (h : ∀ i, a ≤ i → i < b → f i = g i) (x : Int) : filt f a b x = filt g a b x := by
  unfold filt
  rw [seg_congr h]
theorem mem_of_filt {f g : Nat → Tm} {a b : Nat} (h : ∀ x, filt g a b x = filt f a b x) {i : Nat} (h1 : a ≤ i) (h2 : i < b) : ∃ j, a ≤ j ∧ j < b ∧ f j = g i := by
  have hm : g i ∈ filt g a b (g i).tick := by
    unfold filt
    rw [List.mem_filter]
    exact ⟨mem_seg.2 ⟨i, h1, h2, rfl⟩, by simp⟩
  rw [h] at hm
  unfold filt at hm
  exact mem_seg.1 (List.mem_filter.1 hm).1
theorem Done.refl {f : Nat → Tm} {a b : Nat} (h : Srt f a b) : Done f f a b := ⟨h, fun _ => rfl, fun _ _ => rfl⟩
/-- stable within [a, b) is stable within more -/
theorem filt_wide {f g : Nat → Tm} {a b c d : Nat} (h : ∀ x, filt g a b x = filt f a b x) (he : Else f g a b) (h1 : c ≤ a) (hab : a ≤ b) (h2 : b ≤ d) (x : Int) : filt g c d x = filt f c d x := by
  rw [filt_split (f := g) h1 (by omega : a ≤ d), filt_split (f := g) hab h2, filt_split (f := f) h1 (by omega : a ≤ d), filt_split (f := f) hab h2, h]
  rw [filt_congr (f := g) (g := f) (fun i _ h => he i (.inl h)), filt_congr (f := g) (g := f) (a := b) (fun i h _ => he i (.inr h))]

/-- [s, m) and [m, e) change places -/
def rotF (f : Nat → Tm) (s m e : Nat) : Nat → Tm := fun i => if s ≤ i ∧ i < s + (e - m) then f (i + (m - s)) else if s + (e - m) ≤ i ∧ i < e then f (i - (e - m)) else f i
theorem rot_else {f : Nat → Tm} {s m e : Nat} (h1 : s ≤ m) (h2 : m ≤ e) : Else f (rotF f s m e) s e := fun i hi => by
  unfold rotF
  rw [if_neg (by omega), if_neg (by omega)]
theorem seg_rot {f : Nat → Tm} {s m e : Nat} (h1 : s ≤ m) (h2 : m ≤ e) : seg (rotF f s m e) s (s + (e - m)) = seg f m e ∧ seg (rotF f s m e) (s + (e - m)) e = seg f s m := by
  constructor
  · have := seg_shift (f := rotF f s m e) (g := f) (a := s) (b := m) (n := e - m) (fun i hi => by
      unfold rotF
      rw [if_pos (by omega)]
      congr 1
      omega)
    rw [this]
    congr 1
    omega
  · have := seg_shift (f := rotF f s m e) (g := f) (a := s + (e - m)) (b := s) (n := m - s) (fun i hi => by
      unfold rotF
      rw [if_neg (by omega), if_pos (by omega)]
      congr 1
      omega)
    rw [show s + (e - m) + (m - s) = e by omega, show s + (m - s) = m by omega] at this
    exact this
theorem filt_nil {f : Nat → Tm} {a b : Nat} {x : Int} (h : ∀ i, a ≤ i → i < b → (f i).tick ≠ x) : filt f a b x = [] := by
  unfold filt
  rw [List.filter_eq_nil_iff]
  intro t ht
  obtain ⟨i, h1, h2, rfl⟩ := mem_seg.1 ht
  simpa using h i h1 h2
theorem filt_rot {f : Nat → Tm} {s m e : Nat} (h1 : s ≤ m) (h2 : m ≤ e) (h : ∀ p q, s ≤ p → p < m → m ≤ q → q < e → (f q).tick < (f p).tick) (x : Int) : filt (rotF f s m e) s e x = filt f s e x := by
  rw [filt_split (f := rotF f s m e) (m := s + (e - m)) (by omega) (by omega), filt_split (f := f) h1 h2]
  have e1 : filt (rotF f s m e) s (s + (e - m)) x = filt f m e x := by unfold filt; rw [(seg_rot h1 h2).1]
  have e2 : filt (rotF f s m e) (s + (e - m)) e x = filt f s m x := by unfold filt; rw [(seg_rot h1 h2).2]
  rw [e1, e2]
  by_cases hx : ∃ p, s ≤ p ∧ p < m ∧ (f p).tick = x
  · obtain ⟨p, p1, p2, p3⟩ := hx
    have : filt f m e x = [] := filt_nil fun q q1 q2 => by have := h p q p1 p2 q1 q2; omega
    rw [this, List.append_nil, List.nil_append]
  · have : filt f s m x = [] := filt_nil fun p p1 p2 h3 => hx ⟨p, p1, p2, h3⟩
    rw [this, List.append_nil, List.nil_append]
/-- what a merge comes to once its halves changed places -/
structure Cut (f g : Nat → Tm) (a b c : Nat) : Prop where
  filt : ∀ x, filt g a b x = filt f a b x
  els : Else f g a b
  low : ∀ p q, a ≤ p → p < c → c ≤ q → q < b → (g p).tick ≤ (g q).tick
theorem rot_cut {f : Nat → Tm} {a s m e b : Nat} (hs : Srt f a m) (hs' : Srt f m b) (h1 : a ≤ s) (h2 : s ≤ m) (h3 : m ≤ e) (h4 : e ≤ b) (hlt : ∀ p q, s ≤ p → p < m → m ≤ q → q < e → (f q).tick < (f p).tick)
    (hle : ∀ p q, a ≤ p → p < s → e ≤ q → q < b → (f p).tick ≤ (f q).tick) : Cut f (rotF f s m e) a b (s + (e - m)) ∧ Srt (rotF f s m e) a s ∧ Srt (rotF f s m e) s (s + (e - m)) ∧ Srt (rotF f s m e) (s + (e - m)) e ∧ Srt (rotF f s m e) e b := by
  have r0 : ∀ i, i < s → rotF f s m e i = f i := fun i hi => rot_else h2 h3 i (.inl hi)
  have r3 : ∀ i, e ≤ i → rotF f s m e i = f i := fun i hi => rot_else h2 h3 i (.inr hi)
  have r1 : ∀ i, s ≤ i → i < s + (e - m) → rotF f s m e i = f (i + (m - s)) := fun i q1 q2 => by unfold rotF; rw [if_pos ⟨q1, q2⟩]
  have r2 : ∀ i, s + (e - m) ≤ i → i < e → rotF f s m e i = f (i - (e - m)) := fun i q1 q2 => by unfold rotF; rw [if_neg (by omega), if_pos ⟨q1, q2⟩]
  refine ⟨⟨fun x => filt_wide (filt_rot h2 h3 hlt) (rot_else h2 h3) h1 (by omega) h4 x, fun i hi => rot_else h2 h3 i (by omega), ?_⟩, ?_, ?_, ?_, ?_⟩
  · intro p q p1 p2 q1 q2
    by_cases hp : p < s
    · rw [r0 p hp]
      by_cases hq : q < e
      · rw [r2 q q1 hq]
        exact hs _ _ p1 (by omega) (by omega)
      · rw [r3 q (by omega)]
        exact hle p q p1 hp (by omega) q2
    · rw [r1 p (by omega) p2]
      by_cases hq : q < e
      · rw [r2 q q1 hq]
        exact Int.le_of_lt (hlt _ _ (by omega) (by omega) (by omega) (by omega))
      · rw [r3 q (by omega)]
        exact hs' _ _ (by omega) (by omega) q2
  · intro i j q1 q2 q3
    rw [r0 i (by omega), r0 j (by omega)]
    exact hs _ _ q1 q2 (by omega)
  · intro i j q1 q2 q3
    rw [r1 i (by omega) (by omega), r1 j (by omega) (by omega)]
    exact hs' _ _ (by omega) (by omega) (by omega)
  · intro i j q1 q2 q3
    rw [r2 i (by omega) (by omega), r2 j (by omega) (by omega)]
    exact hs _ _ (by omega) (by omega) (by omega)
  · intro i j q1 q2 q3
    rw [r3 i (by omega), r3 j (by omega)]
    exact hs' _ _ (by omega) q2 q3
/-- both parts sorted, one behind the other -/
theorem Cut.join {f g g1 g2 : Nat → Tm} {a b c : Nat} (h : Cut f g a b c) (h1 : Done g g1 a c) (h2 : Done g1 g2 c b) (hac : a ≤ c) (hcb : c ≤ b) : Done f g2 a b := by
  have low : ∀ i, a ≤ i → i < c → ∃ j, a ≤ j ∧ j < c ∧ g j = g2 i := fun i q1 q2 => by
    rw [h2.els i (.inl q2)]
    exact mem_of_filt h1.filt q1 q2
  have high : ∀ i, c ≤ i → i < b → ∃ j, c ≤ j ∧ j < b ∧ g j = g2 i := fun i q1 q2 => by
    obtain ⟨j, j1, j2, j3⟩ := mem_of_filt h2.filt q1 q2
    exact ⟨j, j1, j2, by rw [← j3, h1.els j (.inr j1)]⟩
  refine ⟨?_, ?_, ?_⟩
  · intro i j q1 q2 q3
    by_cases hj : j < c
    · rw [h2.els i (.inl (by omega)), h2.els j (.inl hj)]
      exact h1.srt i j q1 q2 hj
    · by_cases hi : i < c
      · obtain ⟨p, p1, p2, p3⟩ := low i q1 hi
        obtain ⟨q, r1, r2, r3⟩ := high j (by omega) q3
        rw [← p3, ← r3]
        exact h.low p q p1 p2 r1 r2
      · exact h2.srt i j (by omega) q2 q3
  · intro x
    rw [filt_wide h2.filt h2.els hac hcb (Nat.le_refl _), filt_wide h1.filt h1.els (Nat.le_refl _) hac hcb, h.filt]
  · intro i hi
    rw [h2.els i (by omega), h1.els i (by omega), h.els i hi]

/-! ### exchanges -/
/-- n from a on and n from b on change places -/
def swr (f : Nat → Tm) (a b n : Nat) : Nat → Tm := fun i => if a ≤ i ∧ i < a + n then f (b + (i - a)) else if b ≤ i ∧ i < b + n then f (a + (i - b)) else f i
def swF (f : Nat → Tm) (i j : Nat) : Nat → Tm := fun k => if k = j then f i else if k = i then f j else f k
theorem swr_zero (f : Nat → Tm) (a b : Nat) : swr f a b 0 = f := by
  funext i
  unfold swr
  rw [if_neg (by omega), if_neg (by omega)]
theorem swr_step {f : Nat → Tm} {a b n : Nat} (h : a + n < b) : swF (swr f a b n) (a + n) (b + n) = swr f a b (n + 1) := by
  funext i
  unfold swF swr
  grind
theorem rot_zero (f : Nat → Tm) (s m : Nat) : rotF f s m m = f := by
  funext i
  unfold rotF
  grind
theorem rot_self (f : Nat → Tm) (m e : Nat) : rotF f m m e = f := by
  funext i
  unfold rotF
  grind
theorem rot_right {f : Nat → Tm} {a k : Nat} (h : a ≤ k) : swF (rotF f a (a + 1) (k + 1)) k (k + 1) = rotF f a (a + 1) (k + 2) := by
  funext i
  unfold swF rotF
  grind
theorem rot_left {f : Nat → Tm} {k m : Nat} (h : k < m) : swF (rotF f (k + 1) m (m + 1)) (k + 1) k = rotF f k m (m + 1) := by
  funext i
  unfold swF rotF
  grind
/-- the steps of rotate: i left of m and j right of it are still to change places -/
theorem rot_big {f : Nat → Tm} {m i j : Nat} (hi : i ≤ m) (hj : j < i) (h0 : 0 < j) : rotF (swr f (m - i) m j) (m - (i - j)) m (m + j) = rotF f (m - i) m (m + j) := by
  funext k
  unfold rotF swr
  grind
theorem rot_small {f : Nat → Tm} {m i j : Nat} (hi : i ≤ m) (hj : i < j) (h0 : 0 < i) : rotF (swr f (m - i) (m + j - i) i) (m - i) m (m + (j - i)) = rotF f (m - i) m (m + j) := by
  funext k
  unfold rotF swr
  grind
theorem rot_same {f : Nat → Tm} {m i : Nat} (hi : i ≤ m) : swr f (m - i) m i = rotF f (m - i) m (m + i) := by
  funext k
  unfold rotF swr
  grind
end Go.Proofs.Ytlfiijlfokckkaa
