/- Plain functions on postfixes: how many a token takes, whether tokens are a postfix, and its text, as a stack of texts; what is at a place of the stack is the text of what ends there. No program in this text. -/
import Derived.Test.YtmbmijhfoncncaaGreatDoorPpure
namespace Go.Proofs.YtmbmijhfoncncaaGreatDoor
set_option linter.unusedVariables false

/-- how many a token of a postfix takes; -1: it is none -/
def tak (t : Tk) : Int :=
  if t.2.2 ≠ 0 ∨ t.2.1 < 0 then -1
  else if t.1 = 1 ∨ (t.1 = 2 ∧ t.2.1 < 26) then 0
  else if t.2.1 ≠ 0 then -1
  else if t.1 = 15 ∨ t.1 = 16 then 0
  else if t.1 = 14 ∨ t.1 = 19 then 1
  else if lvl t.1 ≠ 0 then 2 else -1
def cnt : List Tk → Int → Option Int
  | [], n => some n
  | t :: r, n => if tak t < 0 ∨ n < tak t then none else cnt r (n - tak t + 1)
def mayP (ts : List Tk) : Bool := decide (ts.length ≤ 100) && decide (cnt ts 0 = some 1)
/-- a token's own text, with the spaces that part it -/
def sgn (t : Tk) : List UInt8 :=
  if t.1 = 19 then [45] else if t.1 = 14 then [110, 111, 116, 32] else if t.1 = 12 then [32, 97, 110, 100, 32] else if t.1 = 13 then [32, 111, 114, 32] else textB t
/-- a text, where it begins, and whether it and all in it are short enough -/
structure El where
  s : List UInt8
  f : Nat
  ok : Bool
def unS (t : Tk) (x : List UInt8) : List UInt8 := [40] ++ sgn t ++ x ++ [41]
def binS (t : Tk) (a b : List UInt8) : List UInt8 := [40] ++ a ++ sgn t ++ b ++ [41]
def step (i : Nat) (t : Tk) (S : List El) : List El :=
  if tak t = 0 then ⟨textB t, i, true⟩ :: S
  else if tak t = 1 then
    match S with
    | x :: S' => ⟨unS t x.s, x.f, x.ok && decide ((unS t x.s).length ≤ 200)⟩ :: S'
    | [] => []
  else
    match S with
    | b :: a :: S' => ⟨binS t a.s b.s, a.f, b.ok && (a.ok && decide ((binS t a.s b.s).length ≤ 200))⟩ :: S'
    | _ => []
def stk (ts : List Tk) : Nat → List El
  | 0 => []
  | i + 1 => step i (ts.getD i (0, 0, 0)) (stk ts i)
def Valid (ts : List Tk) (i : Nat) : Prop := ∀ j, j < i → 0 ≤ tak (ts.getD j (0, 0, 0)) ∧ tak (ts.getD j (0, 0, 0)) ≤ (stk ts j).length
theorem Valid.mono {ts : List Tk} {i j : Nat} (h : Valid ts i) (hj : j ≤ i) : Valid ts j := fun k hk => h k (by omega)
theorem tak_cases (t : Tk) : tak t = -1 ∨ tak t = 0 ∨ tak t = 1 ∨ tak t = 2 := by
  unfold tak
  split; · simp
  split; · simp
  split; · simp
  split; · simp
  split; · simp
  split <;> simp
theorem step_len {i : Nat} {t : Tk} {S : List El} (h0 : 0 ≤ tak t) (h : tak t ≤ S.length) : ((step i t S).length : Int) = S.length - tak t + 1 := by
  unfold step
  rcases tak_cases t with c | c | c | c
  · omega
  · rw [if_pos c, c]; simp
  · rw [if_neg (by omega), if_pos c, c]
    rcases S with _ | ⟨x, S'⟩
    · simp at h; omega
    · simp
  · rw [if_neg (by omega), if_neg (by omega), c]
    rcases S with _ | ⟨x, _ | ⟨y, S'⟩⟩
    · simp at h; omega
    · simp at h; omega
    · simp; omega
theorem valid_len {ts : List Tk} {i : Nat} (h : Valid ts (i + 1)) : ((stk ts (i + 1)).length : Int) = (stk ts i).length - tak (ts.getD i (0, 0, 0)) + 1 := step_len (h i (by omega)).1 (h i (by omega)).2
theorem cnt_valid (ts : List Tk) (c : Int) : ∀ (n j : Nat), ts.length - j ≤ n → j ≤ ts.length → Valid ts j → cnt (ts.drop j) (stk ts j).length = some c → Valid ts ts.length ∧ ((stk ts ts.length).length : Int) = c
  | 0, j, h, hj, hv, hc => by
    obtain rfl : j = ts.length := by omega
    rw [List.drop_length, cnt] at hc
    injection hc with hc
    exact ⟨hv, hc⟩
  | n + 1, j, h, hj, hv, hc => by
    rcases Nat.lt_or_ge j ts.length with hlt | hge
    · rw [List.drop_eq_getElem_cons hlt, cnt] at hc
      have hg : ts.getD j (0, 0, 0) = ts[j] := by simp [List.getD, List.getElem?_eq_getElem hlt]
      by_cases hn : tak ts[j] < 0 ∨ ((stk ts j).length : Int) < tak ts[j]
      · rw [if_pos hn] at hc; cases hc
      · rw [if_neg hn] at hc
        have hv1 : Valid ts (j + 1) := fun k hk => by
          rcases Nat.lt_or_ge k j with h1 | h1
          · exact hv k h1
          · obtain rfl : k = j := by omega
            rw [hg]; omega
        refine cnt_valid ts c n (j + 1) (by omega) (by omega) hv1 ?_
        rw [valid_len hv1, hg]; exact hc
    · obtain rfl : j = ts.length := by omega
      rw [List.drop_length, cnt] at hc
      injection hc with hc
      exact ⟨hv, hc⟩
theorem mayP_valid {ts : List Tk} (h : mayP ts = true) : ts.length ≤ 100 ∧ Valid ts ts.length ∧ ∃ x, stk ts ts.length = [x] := by
  unfold mayP at h
  simp only [Bool.and_eq_true, decide_eq_true_eq] at h
  obtain ⟨hv, hl⟩ := cnt_valid ts 1 ts.length 0 (by omega) (by omega) (fun j hj => by omega) h.2
  refine ⟨h.1, hv, ?_⟩
  rcases hs : stk ts ts.length with _ | ⟨x, _ | ⟨y, S⟩⟩
  · rw [hs] at hl; simp at hl
  · exact ⟨x, rfl⟩
  · rw [hs] at hl; simp at hl; omega
theorem stk_succ (ts : List Tk) (i : Nat) : stk ts (i + 1) = step i (ts.getD i (0, 0, 0)) (stk ts i) := rfl
theorem step0 {i : Nat} {t : Tk} (S : List El) (h : tak t = 0) : step i t S = ⟨textB t, i, true⟩ :: S := by unfold step; rw [if_pos h]
theorem step1 {i : Nat} {t : Tk} (x : El) (S : List El) (h : tak t = 1) : step i t (x :: S) = ⟨unS t x.s, x.f, x.ok && decide ((unS t x.s).length ≤ 200)⟩ :: S := by unfold step; rw [if_neg (by omega), if_pos h]
theorem step2 {i : Nat} {t : Tk} (b a : El) (S : List El) (h : tak t = 2) : step i t (b :: a :: S) = ⟨binS t a.s b.s, a.f, b.ok && (a.ok && decide ((binS t a.s b.s).length ≤ 200))⟩ :: S := by unfold step; rw [if_neg (by omega), if_neg (by omega)]
/-- what stands under an element is the stack where that begins -/
theorem stk_under (ts : List Tk) : ∀ (n i : Nat), i ≤ n → Valid ts i → ∀ x S, stk ts i = x :: S → x.f < i ∧ S = stk ts x.f
  | n, 0, _, _, x, S, h => by cases h
  | 0, i + 1, hn, _, _, _, _ => by omega
  | n + 1, i + 1, hn, hv, x, S, h => by
    rw [stk_succ] at h
    have h0 := (hv i (by omega)).1
    have h1 := (hv i (by omega)).2
    rcases tak_cases (ts.getD i (0, 0, 0)) with c | c | c | c
    · omega
    · rw [step0 _ c] at h
      injection h with hx hS
      subst hx
      exact ⟨by simp, hS.symm⟩
    · rcases hs : stk ts i with _ | ⟨y, S'⟩
      · rw [hs, c] at h1; simp at h1
      · rw [hs, step1 _ _ c] at h
        injection h with hx hS
        have := stk_under ts n i (by omega) (hv.mono (by omega)) y S' hs
        subst hx; subst hS
        exact ⟨by simp; omega, this.2⟩
    · rcases hs : stk ts i with _ | ⟨b, _ | ⟨a, S'⟩⟩
      · rw [hs, c] at h1; simp at h1
      · rw [hs, c] at h1; simp at h1
      · rw [hs, step2 _ _ _ c] at h
        injection h with hx hS
        have h2 := stk_under ts n i (by omega) (hv.mono (by omega)) b (a :: S') hs
        have h3 := stk_under ts n b.f (by omega) (hv.mono (by omega)) a S' h2.2.symm
        subst hx; subst hS
        exact ⟨by simp; omega, h3.2⟩
def allOk (S : List El) : Bool := S.all (·.ok)
theorem step_bad {i : Nat} {t : Tk} {S : List El} (h0 : 0 ≤ tak t) (h : tak t ≤ S.length) (hb : allOk S = false) : allOk (step i t S) = false := by
  rcases tak_cases t with c | c | c | c
  · omega
  · rw [step0 _ c]; unfold allOk at hb ⊢; simp [hb]
  · rcases S with _ | ⟨x, S'⟩
    · rw [c] at h; simp at h
    · rw [step1 _ _ c]
      unfold allOk at hb ⊢
      simp only [List.all_cons] at hb ⊢
      cases hx : x.ok with
      | false => simp
      | true => rw [hx] at hb; simp at hb ⊢; exact fun _ => hb
  · rcases S with _ | ⟨x, _ | ⟨y, S'⟩⟩
    · rw [c] at h; simp at h
    · rw [c] at h; simp at h
    · rw [step2 _ _ _ c]
      unfold allOk at hb ⊢
      simp only [List.all_cons] at hb ⊢
      cases hx : x.ok with
      | false => simp
      | true =>
        cases hy : y.ok with
        | false => simp
        | true => rw [hx, hy] at hb; simp at hb ⊢; exact fun _ => hb
theorem stk_bad (ts : List Tk) (i : Nat) (hb : allOk (stk ts i) = false) : ∀ (n : Nat), Valid ts (i + n) → allOk (stk ts (i + n)) = false
  | 0, _ => hb
  | n + 1, hv => by
    have ih := stk_bad ts i hb n (hv.mono (by omega))
    exact step_bad (hv (i + n) (by omega)).1 (hv (i + n) (by omega)).2 ih

/-! ### tokens of a postfix are tokens with a text -/
theorem tak_may {t : Tk} (h : 0 ≤ tak t) : t.2.2 = 0 ∧ 0 ≤ t.2.1 ∧ (t.1 = 19 ∧ t.2.1 = 0 ∨ mayB t = true) := by
  obtain ⟨k, n, a⟩ := t
  unfold tak at h
  simp only at h ⊢
  by_cases c1 : a ≠ 0 ∨ n < 0
  · rw [if_pos c1] at h; omega
  · rw [if_neg c1] at h
    refine ⟨by omega, by omega, ?_⟩
    by_cases c2 : k = 1 ∨ (k = 2 ∧ n < 26)
    · right
      rcases c2 with rfl | ⟨rfl, h2⟩
      · rw [mayB_num 1 n a rfl]; simp; omega
      · rw [mayB_var 2 n a rfl]; simp; omega
    · rw [if_neg c2] at h
      by_cases c3 : n ≠ 0
      · rw [if_pos c3] at h; omega
      · rw [if_neg c3] at h
        have hn : n = 0 := by omega
        subst hn
        have hk : k = 19 ∨ (3 ≤ k ∧ k ≤ 18) := by
          by_cases c4 : k = 15 ∨ k = 16
          · omega
          · rw [if_neg c4] at h
            by_cases c5 : k = 14 ∨ k = 19
            · omega
            · rw [if_neg c5] at h
              by_cases c6 : lvl k ≠ 0
              · have h1 := lvl_le k
                right
                unfold lvl at c6
                by_cases d1 : k = 13
                · omega
                · rw [if_neg d1] at c6
                  by_cases d2 : k = 12
                  · omega
                  · rw [if_neg d2] at c6
                    by_cases d3 : 8 ≤ k ∧ k ≤ 11
                    · omega
                    · rw [if_neg d3] at c6
                      by_cases d4 : k = 3 ∨ k = 4
                      · omega
                      · rw [if_neg d4] at c6
                        by_cases d5 : 5 ≤ k ∧ k ≤ 7
                        · omega
                        · rw [if_neg d5] at c6; exact absurd rfl c6
              · rw [if_neg c6] at h; omega
        rcases hk with rfl | hk
        · exact .inl ⟨rfl, rfl⟩
        · right
          rw [mayB_else k 0 a (by omega) (by simp; omega) (by simp; omega)]; rfl
end Go.Proofs.YtmbmijhfoncncaaGreatDoor
