/- Plain functions on postfixes: how many a token takes, whether tokens are a postfix, and its text, as a stack of texts; what is at a place of the stack is the text of what ends there. No program in this text. -/
import Derived.Test.YtafcbgapllkghaaGreatDoorPpure
import Derived.Test.YtafcbgapllkghaaGreatDoorPkind
import Derived.Test.YtafcbgapllkghaaGreatDoorQone2
import Derived.RegionTactic
namespace Go.Proofs.YtafcbgapllkghaaGreatDoor
set_option linter.unusedVariables false

/-- how many a token of a postfix takes; -1: it is none -/
def tak (t : Tk) : Int :=
  if t.2.2 ≠ 0 ∨ t.2.1 < 0 then -1
  else if t.1 = 1 ∨ (t.1 = 2 ∧ t.2.1 < 26) then 0
  else if t.2.1 ≠ 0 then -1
  else if t.1 = 15 ∨ t.1 = 16 then 0
  else if t.1 = 14 ∨ t.1 = 19 then 1
  else if lvl t.1 ≠ 0 then 2 else -1
def cnt : List Tk → Int → Option Int
  | [], n => some n
  | t :: r, n => if tak t < 0 ∨ n < tak t then none else cnt r (n - tak t + 1)
def mayP (ts : List Tk) : Bool := decide (ts.length ≤ 100) && decide (cnt ts 0 = some 1)
/-- a token's own text, with the spaces that part it -/
def sgn (t : Tk) : List UInt8 :=
  if t.1 = 19 then [45] else if t.1 = 14 then [110, 111, 116, 32] else if t.1 = 12 then [32, 97, 110, 100, 32] else if t.1 = 13 then [32, 111, 114, 32] else textB t
/-- a text, where it begins, and whether it and all in it are short enough -/
structure El where
  s : List UInt8
  f : Nat
  ok : Bool
def unS (t : Tk) (x : List UInt8) : List UInt8 := [40] ++ sgn t ++ x ++ [41]
def binS (t : Tk) (a b : List UInt8) : List UInt8 := [40] ++ a ++ sgn t ++ b ++ [41]
def step (i : Nat) (t : Tk) (S : List El) : List El :=
  if tak t = 0 then ⟨textB t, i, true⟩ :: S
  else if tak t = 1 then
    match S with
    | x :: S' => ⟨unS t x.s, x.f, x.ok && decide ((unS t x.s).length ≤ 200)⟩ :: S'
    | [] => []
  else
    match S with
    | b :: a :: S' => ⟨binS t a.s b.s, a.f, b.ok && (a.ok && decide ((binS t a.s b.s).length ≤ 200))⟩ :: S'
    | _ => []
def stk (ts : List Tk) : Nat → List El
  | 0 => []
  | i + 1 => step i (ts.getD i (0, 0, 0)) (stk ts i)
def Valid (ts : List Tk) (i : Nat) : Prop := ∀ j, j < i → 0 ≤ tak (ts.getD j (0, 0, 0)) ∧ tak (ts.getD j (0, 0, 0)) ≤ (stk ts j).length
theorem Valid.mono {ts : List Tk} {i j : Nat} (h : Valid ts i) (hj : j ≤ i) : Valid ts j := fun k hk => h k (by omega)
theorem tak_cases (t : Tk) : tak t = -1 ∨ tak t = 0 ∨ tak t = 1 ∨ tak t = 2 := by
  unfold tak
  split; · simp
  split; · simp
  split; · simp
  split; · simp
  split; · simp
  split <;> simp
theorem step_len {i : Nat} {t : Tk} {S : List El} (h0 : 0 ≤ tak t) (h : tak t ≤ S.length) : ((step i t S).length : Int) = S.length - tak t + 1 := by
  unfold step
  rcases tak_cases t with c | c | c | c
  · omega
  · rw [if_pos c, c]; simp
  · rw [if_neg (by omega), if_pos c, c]
    rcases S with _ | ⟨x, S'⟩
    · simp at h; omega
    · simp
  · rw [if_neg (by omega), if_neg (by omega), c]
    rcases S with _ | ⟨x, _ | ⟨y, S'⟩⟩
    · simp at h; omega
    · simp at h; omega
    · simp; omega
theorem valid_len {ts : List Tk} {i : Nat} (h : Valid ts (i + 1)) : ((stk ts (i + 1)).length : Int) = (stk ts i).length - tak (ts.getD i (0, 0, 0)) + 1 := step_len (h i (by omega)).1 (h i (by omega)).2
theorem cnt_valid (ts : List Tk) (c : Int) : ∀ (n j : Nat), ts.length - j ≤ n → j ≤ ts.length → Valid ts j → cnt (ts.drop j) (stk ts j).length = some c → Valid ts ts.length ∧ ((stk ts ts.length).length : Int) = c
  | 0, j, h, hj, hv, hc => by
    obtain rfl : j = ts.length := by omega
    rw [List.drop_length, cnt] at hc
    injection hc with hc
    exact ⟨hv, hc⟩
  | n + 1, j, h, hj, hv, hc => by
    rcases Nat.lt_or_ge j ts.length with hlt | hge
    · rw [List.drop_eq_getElem_cons hlt, cnt] at hc
      have hg : ts.getD j (0, 0, 0) = ts[j] := by simp [List.getD, List.getElem?_eq_getElem hlt]
      by_cases hn : tak ts[j] < 0 ∨ ((stk ts j).length : Int) < tak ts[j]
      · rw [if_pos hn] at hc; cases hc
      · rw [if_neg hn] at hc
        have hv1 : Valid ts (j + 1) := fun k hk => by
          rcases Nat.lt_or_ge k j with h1 | h1
          · exact hv k h1
          · obtain rfl : k = j := by omega
            rw [hg]; omega
        refine cnt_valid ts c n (j + 1) (by omega) (by omega) hv1 ?_
        rw [valid_len hv1, hg]; exact hc
    · obtain rfl : j = ts.length := by omega
      rw [List.drop_length, cnt] at hc
      injection hc with hc
      exact ⟨hv, hc⟩
theorem mayP_valid {ts : List Tk} (h : mayP ts = true) : ts.length ≤ 100 ∧ Valid ts ts.length ∧ ∃ x, stk ts ts.length = [x] := by
  unfold mayP at h
  simp only [Bool.and_eq_true, decide_eq_true_eq] at h
  obtain ⟨hv, hl⟩ := cnt_valid ts 1 ts.length 0 (by omega) (by omega) (fun j hj => by omega) h.2
  refine ⟨h.1, hv, ?_⟩
  rcases hs : stk ts ts.length with _ | ⟨x, _ | ⟨y, S⟩⟩
  · rw [hs] at hl; simp at hl
  · exact ⟨x, rfl⟩
  · rw [hs] at hl; simp at hl; omega
theorem stk_succ (ts : List Tk) (i : Nat) : stk ts (i + 1) = step i (ts.getD i (0, 0, 0)) (stk ts i) := rfl
theorem step0 {i : Nat} {t : Tk} (S : List El) (h : tak t = 0) : step i t S = ⟨textB t, i, true⟩ :: S := by unfold step; rw [if_pos h]
theorem step1 {i : Nat} {t : Tk} (x : El) (S : List El) (h : tak t = 1) : step i t (x :: S) = ⟨unS t x.s, x.f, x.ok && decide ((unS t x.s).length ≤ 200)⟩ :: S := by unfold step; rw [if_neg (by omega), if_pos h]
theorem step2 {i : Nat} {t : Tk} (b a : El) (S : List El) (h : tak t = 2) : step i t (b :: a :: S) = ⟨binS t a.s b.s, a.f, b.ok && (a.ok && decide ((binS t a.s b.s).length ≤ 200))⟩ :: S := by unfold step; rw [if_neg (by omega), if_neg (by omega)]
/-- what stands under an element is the stack where that begins -/
theorem stk_under (ts : List Tk) : ∀ (n i : Nat), i ≤ n → Valid ts i → ∀ x S, stk ts i = x :: S → x.f < i ∧ S = stk ts x.f
  | n, 0, _, _, x, S, h => by cases h
  | 0, i + 1, hn, _, _, _, _ => by omega
  | n + 1, i + 1, hn, hv, x, S, h => by
    rw [stk_succ] at h
    have h0 := (hv i (by omega)).1
    have h1 := (hv i (by omega)).2
    rcases tak_cases (ts.getD i (0, 0, 0)) with c | c | c | c
    · omega
    · rw [step0 _ c] at h
      injection h with hx hS
      subst hx
      exact ⟨by simp, hS.symm⟩
    · rcases hs : stk ts i with _ | ⟨y, S'⟩
      · rw [hs, c] at h1; simp at h1
      · rw [hs, step1 _ _ c] at h
        injection h with hx hS
        have := stk_under ts n i (by omega) (hv.mono (by omega)) y S' hs
        subst hx; subst hS
        exact ⟨by simp; omega, this.2⟩
    · rcases hs : stk ts i with _ | ⟨b, _ | ⟨a, S'⟩⟩
      · rw [hs, c] at h1; simp at h1
      · rw [hs, c] at h1; simp at h1
      · rw [hs, step2 _ _ _ c] at h
        injection h with hx hS
        have h2 := stk_under ts n i (by omega) (hv.mono (by omega)) b (a :: S') hs
        have h3 := stk_under ts n b.f (by omega) (hv.mono (by omega)) a S' h2.2.symm
        subst hx; subst hS
        exact ⟨by simp; omega, h3.2⟩
def allOk (S : List El) : Bool := S.all (·.ok)
theorem step_bad {i : Nat} {t : Tk} {S : List El} (h0 : 0 ≤ tak t) (h : tak t ≤ S.length) (hb : allOk S = false) : allOk (step i t S) = false := by
  rcases tak_cases t with c | c | c | c
  · omega
  · rw [step0 _ c]; unfold allOk at hb ⊢; simp [hb]
  · rcases S with _ | ⟨x, S'⟩
    · rw [c] at h; simp at h
    · rw [step1 _ _ c]
      unfold allOk at hb ⊢
      simp only [List.all_cons] at hb ⊢
      cases hx : x.ok with
      | false => simp
      | true => rw [hx] at hb; simp at hb ⊢; exact fun _ => hb
  · rcases S with _ | ⟨x, _ | ⟨y, S'⟩⟩
    · rw [c] at h; simp at h
    · rw [c] at h; simp at h
    · rw [step2 _ _ _ c]
      unfold allOk at hb ⊢
      simp only [List.all_cons] at hb ⊢
      cases hx : x.ok with
      | false => simp
      | true =>
        cases hy : y.ok with
        | false => simp
        | true => rw [hx, hy] at hb; simp at hb ⊢; exact fun _ => hb
theorem stk_bad (ts : List Tk) (i : Nat) (hb : allOk (stk ts i) = false) : ∀ (n : Nat), Valid ts (i + n) → allOk (stk ts (i + n)) = false
  | 0, _ => hb
  | n + 1, hv => by
    have ih := stk_bad ts i hb n (hv.mono (by omega))
    exact step_bad (hv (i + n) (by omega)).1 (hv (i + n) (by omega)).2 ih

/-! ### tokens of a postfix are tokens with a text -/
theorem tak_may {t : Tk} (h : 0 ≤ tak t) : t.2.2 = 0 ∧ 0 ≤ t.2.1 ∧ (t.1 = 19 ∧ t.2.1 = 0 ∨ mayB t = true) := by
  obtain ⟨k, n, a⟩ := t
  unfold tak at h
  simp only at h ⊢
  by_cases c1 : a ≠ 0 ∨ n < 0
  · rw [if_pos c1] at h; omega
  · rw [if_neg c1] at h
    refine ⟨by omega, by omega, ?_⟩
    by_cases c2 : k = 1 ∨ (k = 2 ∧ n < 26)
    · right
      rcases c2 with rfl | ⟨rfl, h2⟩
      · rw [mayB_num 1 n a rfl]; simp; omega
      · rw [mayB_var 2 n a rfl]; simp; omega
    · rw [if_neg c2] at h
      by_cases c3 : n ≠ 0
      · rw [if_pos c3] at h; omega
      · rw [if_neg c3] at h
        have hn : n = 0 := by omega
        subst hn
        have hk : k = 19 ∨ (3 ≤ k ∧ k ≤ 18) := by
          by_cases c4 : k = 15 ∨ k = 16
          · omega
          · rw [if_neg c4] at h
            by_cases c5 : k = 14 ∨ k = 19
            · omega
            · rw [if_neg c5] at h
              by_cases c6 : lvl k ≠ 0
              · have h1 := lvl_le k
                right
                unfold lvl at c6
                by_cases d1 : k = 13
                · omega
                · rw [if_neg d1] at c6
                  by_cases d2 : k = 12
                  · omega
                  · rw [if_neg d2] at c6
                    by_cases d3 : 8 ≤ k ∧ k ≤ 11
                    · omega
                    · rw [if_neg d3] at c6
                      by_cases d4 : k = 3 ∨ k = 4
                      · omega
                      · rw [if_neg d4] at c6
                        by_cases d5 : 5 ≤ k ∧ k ≤ 7
                        · omega
                        · rw [if_neg d5] at c6; exact absurd rfl c6
              · rw [if_neg c6] at h; omega
        rcases hk with rfl | hk
        · exact .inl ⟨rfl, rfl⟩
        · right
          rw [mayB_else k 0 a (by omega) (by simp; omega) (by simp; omega)]; rfl
end Go.Proofs.YtafcbgapllkghaaGreatDoor
/- The contracts of parse.takes and May, and of the document's Takes and May. -/
namespace Go.Proofs.YtafcbgapllkghaaGreatDoor
open Go.ChangeShapes Go.WideShapes Go.ChangeAt Go.RowKit
set_option linter.unusedVariables false

/-- what takes tells: as many as it takes, and true; or false -/
def TakPost (t : Tk) (w : World) (e : Ending) (w' : World) : Prop :=
  Below w.heap.size w w' ∧ ∃ n : Int, e = .returned (.tuple #[.int .i64 n, .bool (decide (0 ≤ tak t))]) ∧ (0 ≤ tak t → n = tak t) ∧ 0 ≤ n ∧ n ≤ 2
theorem tak_num (n : Int) : tak (1, n, 0) = if 0 ≤ n then 0 else -1 := by unfold tak; simp only; by_cases h : 0 ≤ n <;> simp [h] <;> omega
theorem tak_var (n : Int) : tak (2, n, 0) = if 0 ≤ n ∧ n ≤ 25 then 0 else -1 := by
  unfold tak
  simp only
  by_cases h : 0 ≤ n ∧ n ≤ 25
  · rw [if_neg (by omega), if_pos (Or.inr ⟨trivial, by omega⟩), if_pos h]
  · rw [if_neg h]
    by_cases h1 : n < 0
    · rw [if_pos (by omega)]
    · rw [if_neg (by omega), if_neg (by omega), if_pos (by omega)]
theorem tak_at (k n a : Int) (h : a ≠ 0) : tak (k, n, a) = -1 := by unfold tak; simp only; rw [if_pos (.inl h)]
def fixTak (k : Int) : Int := if k = 15 ∨ k = 16 then 0 else if k = 14 ∨ k = 19 then 1 else if lvl k ≠ 0 then 2 else -1
theorem tak_fix (k n : Int) (h1 : k ≠ 1) (h2 : k ≠ 2) : tak (k, n, 0) = if n = 0 then fixTak k else -1 := by
  unfold tak fixTak
  simp only
  by_cases h : n = 0
  · rw [if_neg (by omega), if_neg (by omega), if_neg (by omega), if_pos h]
  · rw [if_neg h]
    by_cases h3 : n < 0
    · rw [if_pos (by omega)]
    · rw [if_neg (by omega), if_neg (by omega), if_pos (by omega)]
theorem tp_mk {t : Tk} {w w' : World} {n : Int} {b : Bool} (hb : Below w.heap.size w w') (h0 : 0 ≤ n) (h2 : n ≤ 2) (h : b = decide (0 ≤ tak t)) (hn : 0 ≤ tak t → n = tak t) : TakPost t w (.returned (.tuple #[.int .i64 n, .bool b])) w' :=
  ⟨hb, n, by rw [h], hn, h0, h2⟩
set_option maxHeartbeats 2000000 in
set_option maxRecDepth 100000 in
theorem takes_at (k n a : Int) (w : World) (h : a ≠ 0) : Calls Tryz.prog 46 #[.agg #[.int .i64 k, .int .i64 n, .int .i64 a]] w (TakPost (k, n, a) w) := by
  have ha : (a == 0) = false := by simpa using h
  have ha2 : (a != 0) = true := by simpa using h
  have HT := Lib.hid (tak_at k n a h)
  clear h
  go_enter Tryz.func46, Tryz.ntmps46
  go_wp2
  go_ret2
  exact tp_mk ((Below.refl _ _).alloc (Nat.le_refl _) _) (by omega) (by omega) (by rw [HT.out]; rfl) (by rw [HT.out]; omega)
set_option maxHeartbeats 2000000 in
set_option maxRecDepth 100000 in
theorem takes_num (n : Int) (w : World) : Calls Tryz.prog 46 #[.agg #[.int .i64 1, .int .i64 n, .int .i64 0]] w (TakPost (1, n, 0) w) := by
  have HT := Lib.hid (tak_num n)
  by_cases h : 0 ≤ n
  · have hd : decide (0 ≤ n) = true := by simpa using h
    go_enter Tryz.func46, Tryz.ntmps46
    go_wp2
    go_quiet (fail)
    go_wp2
    go_ret2
    exact tp_mk (below_drewN ((Below.refl _ _).alloc (Nat.le_refl _) _) _) (by omega) (by omega) (by rw [HT.out, if_pos h]; rfl) (by rw [HT.out, if_pos h]; omega)
  · have hd : decide (0 ≤ n) = false := by simpa using h
    go_enter Tryz.func46, Tryz.ntmps46
    go_wp2
    go_quiet (fail)
    go_wp2
    go_ret2
    exact tp_mk (below_drewN ((Below.refl _ _).alloc (Nat.le_refl _) _) _) (by omega) (by omega) (by rw [HT.out, if_neg (by simpa using hd)]; rfl) (by rw [HT.out, if_neg (by simpa using hd)]; omega)
set_option maxHeartbeats 4000000 in
set_option maxRecDepth 100000 in
theorem takes_var (n : Int) (w : World) : Calls Tryz.prog 46 #[.agg #[.int .i64 2, .int .i64 n, .int .i64 0]] w (TakPost (2, n, 0) w) := by
  have HT := Lib.hid (tak_var n)
  by_cases h : 0 ≤ n
  · have hd : decide (0 ≤ n) = true := by simpa using h
    by_cases h2 : n ≤ 25
    · have hd2 : decide (n ≤ 25) = true := by simpa using h2
      go_enter Tryz.func46, Tryz.ntmps46
      go_wp2
      go_quiet (fail)
      go_wp2
      go_ret2
      exact tp_mk (below_drewN ((Below.refl _ _).alloc (Nat.le_refl _) _) _) (by omega) (by omega) (by rw [HT.out, if_pos ⟨h, h2⟩]; rfl) (by rw [HT.out, if_pos ⟨h, h2⟩]; omega)
    · have hd2 : decide (n ≤ 25) = false := by simpa using h2
      have HN := Lib.hid (show ¬ (0 ≤ n ∧ n ≤ 25) by omega)
      go_enter Tryz.func46, Tryz.ntmps46
      go_wp2
      go_quiet (fail)
      go_wp2
      go_ret2
      exact tp_mk (below_drewN ((Below.refl _ _).alloc (Nat.le_refl _) _) _) (by omega) (by omega) (by rw [HT.out, if_neg HN.out]; rfl) (by rw [HT.out, if_neg HN.out]; omega)
  · have hd : decide (0 ≤ n) = false := by simpa using h
    have HN := Lib.hid (show ¬ (0 ≤ n ∧ n ≤ 25) by omega)
    go_enter Tryz.func46, Tryz.ntmps46
    go_wp2
    go_quiet (fail)
    go_wp2
    go_ret2
    exact tp_mk (below_drewN ((Below.refl _ _).alloc (Nat.le_refl _) _) _) (by omega) (by omega) (by rw [HT.out, if_neg HN.out]; rfl) (by rw [HT.out, if_neg HN.out]; omega)
theorem fix_end {k n m : Int} (h : tak (k, n, 0) = if n = 0 then m else -1) (h0 : 0 ≤ m) : (n == 0) = decide (0 ≤ tak (k, n, 0)) ∧ (0 ≤ tak (k, n, 0) → m = tak (k, n, 0)) := by
  rw [h]
  by_cases hn : n = 0
  · rw [if_pos hn]; subst hn; simp [h0]
  · rw [if_neg hn]; simp [hn]
set_option maxHeartbeats 8000000 in
set_option maxRecDepth 100000 in
theorem takes_fix (k n : Int) (w : World) (h : (k = 15 ∨ k = 16) ∨ (k = 14 ∨ k = 19) ∨ k = 3 ∨ k = 4 ∨ k = 5 ∨ k = 6 ∨ k = 7 ∨ k = 8 ∨ k = 9 ∨ k = 10 ∨ k = 11 ∨ k = 12 ∨ k = 13) : Calls Tryz.prog 46 #[.agg #[.int .i64 k, .int .i64 n, .int .i64 0]] w (TakPost (k, n, 0) w) := by
  have hf : 0 ≤ fixTak k := by rcases h with (rfl | rfl) | (rfl | rfl) | rfl | rfl | rfl | rfl | rfl | rfl | rfl | rfl | rfl | rfl | rfl <;> decide
  have HT := Lib.hid (fix_end (tak_fix k n (by omega) (by omega)) hf)
  clear hf
  rcases h with (rfl | rfl) | (rfl | rfl) | rfl | rfl | rfl | rfl | rfl | rfl | rfl | rfl | rfl | rfl | rfl
  all_goals
    go_enter Tryz.func46, Tryz.ntmps46
    go_wp2
    go_quiet (fail)
    go_wp2
    go_ret2
    exact tp_mk (below_drewN ((Below.refl _ _).alloc (Nat.le_refl _) _) _) (by omega) (by omega) HT.out.1 HT.out.2
theorem fixTak_none {k : Int} (h : ¬ ((k = 15 ∨ k = 16) ∨ (k = 14 ∨ k = 19) ∨ k = 3 ∨ k = 4 ∨ k = 5 ∨ k = 6 ∨ k = 7 ∨ k = 8 ∨ k = 9 ∨ k = 10 ∨ k = 11 ∨ k = 12 ∨ k = 13)) : fixTak k = -1 := by
  have h0 : lvl k = 0 := by
    unfold lvl
    rw [if_neg (by omega), if_neg (by omega), if_neg (by omega), if_neg (by omega), if_neg (by omega)]
  unfold fixTak
  rw [if_neg (by omega), if_neg (by omega), if_neg (by omega)]
set_option maxHeartbeats 4000000 in
set_option maxRecDepth 100000 in
theorem takes_none (k n : Int) (w : World) (h1 : k ≠ 1) (h2 : k ≠ 2) (h : ¬ ((k = 15 ∨ k = 16) ∨ (k = 14 ∨ k = 19) ∨ k = 3 ∨ k = 4 ∨ k = 5 ∨ k = 6 ∨ k = 7 ∨ k = 8 ∨ k = 9 ∨ k = 10 ∨ k = 11 ∨ k = 12 ∨ k = 13)) : Calls Tryz.prog 46 #[.agg #[.int .i64 k, .int .i64 n, .int .i64 0]] w (TakPost (k, n, 0) w) := by
  have HT : Hid (tak (k, n, 0) = -1) := Lib.hid (by rw [tak_fix k n h1 h2, fixTak_none h]; split <;> rfl)
  have b1 : (k == 1) = false := by simpa using h1
  have b2 : (k == 2) = false := by simpa using h2
  have b15 : (k == 15) = false := by simp; omega
  have b16 : (k == 16) = false := by simp; omega
  have b14 : (k == 14) = false := by simp; omega
  have b19 : (k == 19) = false := by simp; omega
  have b3 : (k == 3) = false := by simp; omega
  have b4 : (k == 4) = false := by simp; omega
  have b5 : (k == 5) = false := by simp; omega
  have b6 : (k == 6) = false := by simp; omega
  have b7 : (k == 7) = false := by simp; omega
  have b8 : (k == 8) = false := by simp; omega
  have b9 : (k == 9) = false := by simp; omega
  have b10 : (k == 10) = false := by simp; omega
  have b11 : (k == 11) = false := by simp; omega
  have b12 : (k == 12) = false := by simp; omega
  have b13 : (k == 13) = false := by simp; omega
  clear h h1 h2
  go_enter Tryz.func46, Tryz.ntmps46
  go_wp2
  go_ret2
  exact tp_mk ((Below.refl _ _).alloc (Nat.le_refl _) _) (by omega) (by omega) (by rw [HT.out]; rfl) (by rw [HT.out]; omega)
theorem takes_any (t : Tk) (w : World) : Calls Tryz.prog 46 #[.agg #[.int .i64 t.1, .int .i64 t.2.1, .int .i64 t.2.2]] w (TakPost t w) := by
  obtain ⟨k, n, a⟩ := t
  by_cases ha : a = 0
  · subst ha
    by_cases h1 : k = 1
    · subst h1; exact takes_num n w
    · by_cases h2 : k = 2
      · subst h2; exact takes_var n w
      · by_cases h : (k = 15 ∨ k = 16) ∨ (k = 14 ∨ k = 19) ∨ k = 3 ∨ k = 4 ∨ k = 5 ∨ k = 6 ∨ k = 7 ∨ k = 8 ∨ k = 9 ∨ k = 10 ∨ k = 11 ∨ k = 12 ∨ k = 13
        · exact takes_fix k n w h
        · exact takes_none k n w h1 h2 h
  · exact takes_at k n a w ha
end Go.Proofs.YtafcbgapllkghaaGreatDoor
/- The contract of the document's Takes; the contracts of parse.May and of the document's May. -/
namespace Go.Proofs.YtafcbgapllkghaaGreatDoor
open Go.ChangeShapes Go.WideShapes Go.ChangeAt Go.RowKit
set_option linter.unusedVariables false

theorem tak_neg (k n : Int) (h : n < 0) : tak (k, n, 0) = -1 := by unfold tak; simp only; rw [if_pos (.inr h)]
set_option maxHeartbeats 4000000 in
set_option maxRecDepth 100000 in
theorem rtakes_low (k n a : Int) (w : World) (h : a ≠ 0 ∨ a = 0 ∧ n < 0) : Calls Tryz.prog 37 #[.agg #[.int .i64 k, .int .i64 n, .int .i64 a]] w fun e w' => e = .returned (.int .i64 (-1)) ∧ Below w.heap.size w w' := by
  rcases h with h | ⟨rfl, h⟩
  · have ha : (a == 0) = false := by simpa using h
    have ha2 : (a != 0) = true := by simpa using h
    clear h
    go_enter Tryz.func37, Tryz.ntmps37
    go_wp2_with fail
    go_ret
    exact ⟨rfl, (Below.refl _ _).alloc (Nat.le_refl _) _⟩
  · have hd : decide (n < 0) = true := by simpa using h
    go_enter Tryz.func37, Tryz.ntmps37
    go_wp2_with fail
    go_ret
    exact ⟨rfl, (Below.refl _ _).alloc (Nat.le_refl _) _⟩
set_option maxHeartbeats 4000000 in
set_option maxRecDepth 100000 in
theorem rtakes_num (n : Int) (w : World) (h : 0 ≤ n) : Calls Tryz.prog 37 #[.agg #[.int .i64 1, .int .i64 n, .int .i64 0]] w fun e w' => e = .returned (.int .i64 0) ∧ Below w.heap.size w w' := by
  have hd : decide (n < 0) = false := by simpa using h
  go_enter Tryz.func37, Tryz.ntmps37
  go_wp2_with fail
  go_ret
  exact ⟨rfl, (Below.refl _ _).alloc (Nat.le_refl _) _⟩
set_option maxHeartbeats 4000000 in
set_option maxRecDepth 100000 in
theorem rtakes_var (n : Int) (w : World) (h : 0 ≤ n) : Calls Tryz.prog 37 #[.agg #[.int .i64 2, .int .i64 n, .int .i64 0]] w fun e w' => e = .returned (.int .i64 (if n ≤ 25 then 0 else -1)) ∧ Below w.heap.size w w' := by
  have hd : decide (n < 0) = false := by simpa using h
  by_cases h2 : n < 26
  · have hd2 : decide (n < 26) = true := by simpa using h2
    rw [if_pos (by omega)]
    go_enter Tryz.func37, Tryz.ntmps37
    go_wp2_with fail
    go_ret
    exact ⟨rfl, (Below.refl _ _).alloc (Nat.le_refl _) _⟩
  · have hd2 : decide (n < 26) = false := by simpa using h2
    have n0 : (n == 0) = false := by simp; omega
    have n1 : (n != 0) = true := by simp; omega
    rw [if_neg (by omega)]
    go_enter Tryz.func37, Tryz.ntmps37
    go_wp2_with fail
    go_ret
    exact ⟨rfl, (Below.refl _ _).alloc (Nat.le_refl _) _⟩
set_option maxHeartbeats 4000000 in
set_option maxRecDepth 100000 in
theorem rtakes_more (k n : Int) (w : World) (h : 0 < n) (h1 : k ≠ 1) (h2 : k ≠ 2) : Calls Tryz.prog 37 #[.agg #[.int .i64 k, .int .i64 n, .int .i64 0]] w fun e w' => e = .returned (.int .i64 (-1)) ∧ Below w.heap.size w w' := by
  have hd : decide (n < 0) = false := by simp; omega
  have n0 : (n == 0) = false := by simp; omega
  have n1 : (n != 0) = true := by simp; omega
  have b1 : (k == 1) = false := by simpa using h1
  have b2 : (k == 2) = false := by simpa using h2
  clear h1 h2
  go_enter Tryz.func37, Tryz.ntmps37
  go_wp2_with fail
  go_ret
  exact ⟨rfl, (Below.refl _ _).alloc (Nat.le_refl _) _⟩
set_option maxHeartbeats 4000000 in
set_option maxRecDepth 100000 in
theorem rtakes_fix (k : Int) (w : World) (h1 : k ≠ 1) (h2 : k ≠ 2) : Calls Tryz.prog 37 #[.agg #[.int .i64 k, .int .i64 0, .int .i64 0]] w fun e w' => e = .returned (.int .i64 (fixTak k)) ∧ Below w.heap.size w w' := by
  have b1 : (k == 1) = false := by simpa using h1
  have b2 : (k == 2) = false := by simpa using h2
  by_cases c : k = 15 ∨ k = 16
  · have HF := Lib.hid (show fixTak k = 0 by unfold fixTak; rw [if_pos c])
    clear h1 h2
    rcases c with rfl | rfl
    all_goals
      go_enter Tryz.func37, Tryz.ntmps37
      go_wp2_with fail
      go_ret
      exact ⟨ret_int HF.out.symm, (Below.refl _ _).alloc (Nat.le_refl _) _⟩
  · have b15 : (k == 15) = false := by simp; omega
    have b16 : (k == 16) = false := by simp; omega
    by_cases d : k = 14 ∨ k = 19
    · have HF := Lib.hid (show fixTak k = 1 by unfold fixTak; rw [if_neg c, if_pos d])
      clear h1 h2 c
      rcases d with rfl | rfl
      all_goals
        go_enter Tryz.func37, Tryz.ntmps37
        go_wp2_with fail
        go_ret
        exact ⟨ret_int HF.out.symm, (Below.refl _ _).alloc (Nat.le_refl _) _⟩
    · have b14 : (k == 14) = false := by simp; omega
      have b19 : (k == 19) = false := by simp; omega
      by_cases l : lvl k = 0
      · have HF := Lib.hid (show fixTak k = -1 by unfold fixTak; rw [if_neg c, if_neg d, if_neg (by omega)])
        have HLV := Lib.hid l
        clear h1 h2 c d l
        go_enter Tryz.func37, Tryz.ntmps37
        go_wp2_with fail
        refine (level_any _ _).mono ?_
        rintro e w' ⟨rfl, rfl⟩
        rw [HLV.out]
        go_wp2_with fail
        go_ret
        exact ⟨ret_int HF.out.symm, (Below.refl _ _).alloc (Nat.le_refl _) _⟩
      · have HF := Lib.hid (show fixTak k = 2 by unfold fixTak; rw [if_neg c, if_neg d, if_pos l])
        have hp : 0 < lvl k := by omega
        generalize hg : lvl k = y at hp
        have HLV := Lib.hid hg
        have hd1 : decide (0 < y) = true := by simpa using hp
        have hd2 : decide ((0 : Int) < (y : Int)) = true := by simp; omega
        clear h1 h2 c d l hg
        go_enter Tryz.func37, Tryz.ntmps37
        go_wp2_with fail
        refine (level_any _ _).mono ?_
        rintro e w' ⟨rfl, rfl⟩
        rw [HLV.out]
        go_wp2_with fail
        go_ret
        exact ⟨ret_int HF.out.symm, (Below.refl _ _).alloc (Nat.le_refl _) _⟩
theorem rtakes_any (t : Tk) (w : World) : Calls Tryz.prog 37 #[.agg #[.int .i64 t.1, .int .i64 t.2.1, .int .i64 t.2.2]] w fun e w' => e = .returned (.int .i64 (tak t)) ∧ Below w.heap.size w w' := by
  obtain ⟨k, n, a⟩ := t
  by_cases ha : a = 0
  · subst ha
    by_cases hn : n < 0
    · rw [tak_neg k n hn]; exact rtakes_low k n 0 w (.inr ⟨rfl, hn⟩)
    · by_cases h1 : k = 1
      · subst h1; rw [tak_num, if_pos (by omega)]; exact rtakes_num n w (by omega)
      · by_cases h2 : k = 2
        · subst h2
          have := rtakes_var n w (by omega)
          rw [tak_var]
          by_cases h25 : n ≤ 25
          · rw [if_pos h25] at this; rw [if_pos ⟨by omega, h25⟩]; exact this
          · rw [if_neg h25] at this; rw [if_neg (by omega)]; exact this
        · rw [tak_fix k n h1 h2]
          by_cases h0 : n = 0
          · subst h0; rw [if_pos rfl]; exact rtakes_fix k w h1 h2
          · rw [if_neg h0]; exact rtakes_more k n w (by omega) h1 h2
  · rw [tak_at k n a ha]; exact rtakes_low k n a w (.inl ha)
end Go.Proofs.YtafcbgapllkghaaGreatDoor
/- The contracts of parse.May and of the document's May. -/
namespace Go.Proofs.YtafcbgapllkghaaGreatDoor
open Go.ChangeShapes Go.WideShapes Go.ChangeAt Go.RowKit
set_option linter.unusedVariables false

theorem cnt_none {t : Tk} {r : List Tk} {n : Int} (h : tak t < 0 ∨ n < tak t) : cnt (t :: r) n = none := by rw [cnt, if_pos h]
theorem cnt_some {t : Tk} {r : List Tk} {n : Int} (h0 : 0 ≤ tak t) (h : tak t ≤ n) : cnt (t :: r) n = cnt r (n - tak t + 1) := by rw [cnt, if_neg (by omega)]
theorem drop_at {ts : List Tk} {k : Nat} (h : k < ts.length) : ts.drop k = ts[k] :: ts.drop (k + 1) := List.drop_eq_getElem_cons h
def isOne (C : Option Int) : Bool := decide (C = some 1)
theorem isOne_none : isOne none = false := rfl
theorem isOne_some (n : Int) : isOne (some n) = (n == 1) := by unfold isOne; rw [Bool.eq_iff_iff]; simp
theorem mayP_eq (ts : List Tk) : mayP ts = (decide (ts.length ≤ 100) && isOne (cnt ts 0)) := rfl
set_option maxHeartbeats 4000000 in
set_option maxRecDepth 100000 in
theorem may_near (v : Value) (ts : List Tk) (w : World) (hv : ToksAt w v ts) (hl : ts.length ≤ 100) : Calls Tryz.prog 28 #[v] w fun e w' => e = .returned (.bool (isOne (cnt ts 0))) ∧ Below w.heap.size w w' := by
  obtain ⟨A, cap, rfl, hc, hel⟩ := hv
  have HE := Lib.hid hel
  clear hel
  go_enter Tryz.func28, Tryz.ntmps28
  go_wp2_with fail
  go_loopw [3, 13] (fun l i wr => ∃ (k : Nat) (n : Int), k ≤ ts.length ∧ i = .int .i64 (k : Int) ∧ l = .int .i64 n ∧ 0 ≤ n ∧ n ≤ k ∧ Hid (cnt (ts.drop k) n = cnt ts 0) ∧ Below w.heap.size w wr) (fun _ i _ => ts.length - (intOf i).toNat)
  case atStart => exact ⟨0, 0, Nat.zero_le _, rfl, rfl, by omega, by omega, Lib.hid rfl, Below.refl _ _⟩
  case round =>
    obtain ⟨k, n, hk, rfl, rfl, hn0, hnk, hC, hb⟩ := hrel
    obtain ⟨wo, rfl⟩ : ∃ wo : World, wo = wr := ⟨_, rfl⟩
    by_cases hlt : k < ts.length
    · obtain ⟨b, o, rfl, hbw, c0, c1, c2⟩ := HE.out k ts[k] (List.getElem?_eq_getElem hlt)
      have c0 : wo.cell? ⟨b, o + k * 3, none⟩ = _ := (hb.cell (p := ⟨b, _, none⟩) hbw).trans c0
      have c1 : wo.cell? ⟨b, o + k * 3 + 1, none⟩ = _ := (hb.cell (p := ⟨b, _, none⟩) hbw).trans c1
      have c2 : wo.cell? ⟨b, o + k * 3 + 2, none⟩ = _ := (hb.cell (p := ⟨b, _, none⟩) hbw).trans c2
      have HD := Lib.hid (drop_at hlt)
      generalize ts[k] = t at *
      have HB1 := Lib.hid ((Below.refl wo.heap.size wo).alloc (Nat.le_refl _) (.cells #[.int .i64 t.1, .int .i64 t.2.1, .int .i64 t.2.2] 68))
      by_cases ht : 0 ≤ tak t
      · have hd : decide (0 ≤ tak t) = true := by simpa using ht
        by_cases hq : tak t ≤ n
        · have HC := Lib.hid (show cnt (ts.drop (k + 1)) (n - tak t + 1) = cnt ts 0 by rw [← hC.out, HD.out, cnt_some ht hq])
          clear hC
          go_wp2_with fail
          refine (takes_any t _).mono ?_
          rintro e w1 ⟨hb1, m, rfl, hm, hm0, hm2⟩
          rw [hd]
          have hmt := hm ht
          have HX := Lib.hid ((hb.trans (HB1.out.mono hb.size)).trans (hb1.mono (by simp; have := hb.size; omega)))
          have HMT := Lib.hid hmt
          have hq' : m ≤ n := by omega
          clear hm hmt hb1 ht hq hd
          go_wp2
          go_roundw
          case rel => exact ⟨k + 1, n - m + 1, by omega, by go_num, by congr 1; omega, by omega, by omega, Lib.hid (by rw [HMT.out]; exact HC.out), HX.out⟩
          case measure => simp [intOf]; omega
        · have HC := Lib.hid (show cnt ts 0 = none by rw [← hC.out, HD.out, cnt_none (.inr (by omega))])
          clear hC
          go_wp2_with fail
          refine (takes_any t _).mono ?_
          rintro e w1 ⟨hb1, m, rfl, hm, hm0, hm2⟩
          rw [hd]
          have hmt := hm ht
          have HX := Lib.hid ((hb.trans (HB1.out.mono hb.size)).trans (hb1.mono (by simp; have := hb.size; omega)))
          have hq' : n < m := by omega
          clear hm hmt hb1 ht hq hd
          go_wp2
          go_ret
          exact ⟨by rw [HC.out]; rfl, HX.out⟩
      · have hd : decide (0 ≤ tak t) = false := by simpa using ht
        have HC := Lib.hid (show cnt ts 0 = none by rw [← hC.out, HD.out, cnt_none (.inl (by omega))])
        clear hC
        go_wp2_with fail
        refine (takes_any t _).mono ?_
        rintro e w1 ⟨hb1, m, rfl, hm, hm0, hm2⟩
        rw [hd]
        have HX := Lib.hid ((hb.trans (HB1.out.mono hb.size)).trans (hb1.mono (by simp; have := hb.size; omega)))
        clear hm hb1 ht hd
        go_wp2
        go_ret
        exact ⟨by rw [HC.out]; rfl, HX.out⟩
    · obtain rfl : k = ts.length := by omega
      have HC := Lib.hid (show cnt ts 0 = some n by rw [← hC.out, List.drop_length, cnt])
      clear hC
      go_wp2
      go_ret
      exact ⟨by rw [HC.out, isOne_some]; rfl, hb⟩
set_option maxHeartbeats 1000000 in
theorem may_far (v : Value) (ts : List Tk) (w : World) (hv : ToksAt w v ts) (hl : 100 < ts.length) (hl2 : ts.length ≤ 1000000) : Calls Tryz.prog 28 #[v] w fun e w' => e = .returned (.bool false) ∧ Below w.heap.size w w' := by
  obtain ⟨A, cap, rfl, hc, hel⟩ := hv
  clear hel
  go_enter Tryz.func28, Tryz.ntmps28
  go_wp2_with fail
  go_ret
  exact ⟨rfl, Below.refl _ _⟩
theorem may_any (v : Value) (ts : List Tk) (w : World) (hv : ToksAt w v ts) (hl2 : ts.length ≤ 1000000) : Calls Tryz.prog 28 #[v] w fun e w' => e = .returned (.bool (mayP ts)) ∧ Below w.heap.size w w' := by
  rw [mayP_eq]
  by_cases h : ts.length ≤ 100
  · rw [decide_eq_true h, Bool.true_and]; exact may_near v ts w hv h
  · rw [decide_eq_false h, Bool.false_and]; exact may_far v ts w hv (by omega) hl2

set_option maxHeartbeats 4000000 in
set_option maxRecDepth 100000 in
theorem rmay_any (v : Value) (ts : List Tk) (w : World) (hv : ToksAt w v ts) (hl : ts.length ≤ 1000) : Calls Tryz.prog 23 #[v] w fun e w' => e = .returned (.bool (mayP ts)) ∧ Below w.heap.size w w' := by
  have HMP := Lib.hid (mayP_eq ts)
  obtain ⟨A, cap, rfl, hc, hel⟩ := hv
  have HE := Lib.hid hel
  clear hel
  go_enter Tryz.func23, Tryz.ntmps23
  go_wp2_with fail
  go_loopw [3, 4] (fun l i wr => ∃ (k : Nat) (n : Int), k ≤ ts.length ∧ i = .int .i64 (k : Int) ∧ l = .int .i64 n ∧ 0 ≤ n ∧ n ≤ k ∧ Hid (cnt (ts.drop k) n = cnt ts 0) ∧ Below w.heap.size w wr) (fun _ i _ => ts.length - (intOf i).toNat)
  case atStart => exact ⟨0, 0, Nat.zero_le _, rfl, rfl, by omega, by omega, Lib.hid rfl, Below.refl _ _⟩
  case round =>
    obtain ⟨k, n, hk, rfl, rfl, hn0, hnk, hC, hb⟩ := hrel
    obtain ⟨wo, rfl⟩ : ∃ wo : World, wo = wr := ⟨_, rfl⟩
    by_cases hlt : k < ts.length
    · obtain ⟨b, o, rfl, hbw, c0, c1, c2⟩ := HE.out k ts[k] (List.getElem?_eq_getElem hlt)
      have c0 : wo.cell? ⟨b, o + k * 3, none⟩ = _ := (hb.cell (p := ⟨b, _, none⟩) hbw).trans c0
      have c1 : wo.cell? ⟨b, o + k * 3 + 1, none⟩ = _ := (hb.cell (p := ⟨b, _, none⟩) hbw).trans c1
      have c2 : wo.cell? ⟨b, o + k * 3 + 2, none⟩ = _ := (hb.cell (p := ⟨b, _, none⟩) hbw).trans c2
      have HD := Lib.hid (drop_at hlt)
      generalize ts[k] = t at *
      have htc := tak_cases t
      generalize hg : tak t = m at htc
      have HM := Lib.hid hg
      clear hg
      by_cases ht : 0 ≤ m
      · by_cases hq : m ≤ n
        · have HC := Lib.hid (show cnt (ts.drop (k + 1)) (n - m + 1) = cnt ts 0 by rw [← hC.out, HD.out, cnt_some (by rw [HM.out]; exact ht) (by rw [HM.out]; exact hq), HM.out])
          have hd1 : decide (m < 0) = false := by simpa using ht
          have hd2 : decide (n < m) = false := by simpa using hq
          have hm2 : m ≤ 2 := by omega
          clear hC htc
          go_wp2_with fail
          refine (rtakes_any t _).mono ?_
          rintro e w1 ⟨rfl, hb1⟩
          rw [HM.out]
          have HX := Lib.hid (hb.trans (hb1.mono hb.size))
          clear hb1
          go_wp2
          go_roundw
          case rel => exact ⟨k + 1, n - m + 1, by omega, by go_num, rfl, by omega, by omega, HC, HX.out⟩
          case measure => simp [intOf]; omega
        · have HC := Lib.hid (show cnt ts 0 = none by rw [← hC.out, HD.out, cnt_none (.inr (by rw [HM.out]; omega))])
          have hd1 : decide (m < 0) = false := by simpa using ht
          have hd2 : decide (n < m) = true := by simpa using hq
          have hd3 : n < m := by omega
          clear hC htc
          go_wp2_with fail
          refine (rtakes_any t _).mono ?_
          rintro e w1 ⟨rfl, hb1⟩
          rw [HM.out]
          have HX := Lib.hid (hb.trans (hb1.mono hb.size))
          clear hb1
          go_wp2
          go_ret
          exact ⟨by rw [HMP.out, HC.out, isOne_none, Bool.and_false]; rfl, HX.out⟩
      · have HC := Lib.hid (show cnt ts 0 = none by rw [← hC.out, HD.out, cnt_none (.inl (by rw [HM.out]; omega))])
        have hd1 : decide (m < 0) = true := by simpa using ht
        have hd3 : m < 0 := by omega
        clear hC htc
        go_wp2_with fail
        refine (rtakes_any t _).mono ?_
        rintro e w1 ⟨rfl, hb1⟩
        rw [HM.out]
        have HX := Lib.hid (hb.trans (hb1.mono hb.size))
        clear hb1
        go_wp2
        go_ret
        exact ⟨by rw [HMP.out, HC.out, isOne_none, Bool.and_false]; rfl, HX.out⟩
    · obtain rfl : k = ts.length := by omega
      have HC := Lib.hid (show cnt ts 0 = some n by rw [← hC.out, List.drop_length, cnt])
      clear hC
      by_cases hn1 : n = 1
      · subst hn1
        by_cases h100 : ts.length ≤ 100
        · have hd : decide (ts.length ≤ 100) = true := by simpa using h100
          have hd2 : decide ((ts.length : Int) ≤ 100) = true := by simp; omega
          go_wp2
          go_ret
          exact ⟨by rw [HMP.out, HC.out, isOne_some, hd]; rfl, hb⟩
        · have hd : decide (ts.length ≤ 100) = false := by simpa using h100
          have hd2 : decide ((ts.length : Int) ≤ 100) = false := by simp; omega
          go_wp2
          go_ret
          exact ⟨by rw [HMP.out, HC.out, isOne_some, hd]; rfl, hb⟩
      · have hn1' : (n == 1) = false := by simpa using hn1
        clear hn1
        go_wp2
        go_ret
        exact ⟨by rw [HMP.out, HC.out, isOne_some, hn1', Bool.and_false]; rfl, hb⟩
end Go.Proofs.YtafcbgapllkghaaGreatDoor
