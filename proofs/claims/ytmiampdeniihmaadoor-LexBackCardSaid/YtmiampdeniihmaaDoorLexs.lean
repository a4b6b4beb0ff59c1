/- Plain functions on lists of bytes: what the tokens of a text are (layer 2's document, said as one pass from the left), and the steps by which the program and the document's answer come to it. No program in this text. -/
import Derived.Lib.ItoaNum
import Derived.Lib.ParseIntB
import Derived.Lib.Join
import Derived.Lib.Strings
namespace Go.Proofs.YtmiampdeniihmaaDoor
set_option linter.unusedVariables false

/-- a token: its Kind, its N, its At -/
abbrev Tk := Int × Int × Int
def isSp (c : UInt8) : Bool := decide (c.toNat = 32)
def isDg (c : UInt8) : Bool := decide (48 ≤ c.toNat) && decide (c.toNat ≤ 57)
def isLe (c : UInt8) : Bool := decide (97 ≤ c.toNat) && decide (c.toNat ≤ 122)

/-- where the bytes of a class, from k on, end -/
def upto (p : UInt8 → Bool) (l : List UInt8) (k : Nat) : Nat := k + ((l.drop k).takeWhile p).length
/-- the bytes from a on, up to b -/
def mid (l : List UInt8) (a b : Nat) : List UInt8 := (l.drop a).take (b - a)
/-- the number that digits spell -/
def val (l : List UInt8) : Nat := l.foldl (fun n c => 10 * n + (c.toNat - 48)) 0
def texts : List (List UInt8) := [[], [], [], [43], [45], [42], [47], [37], [60], [60, 61], [61, 61], [33, 61], [97, 110, 100], [111, 114], [110, 111, 116], [116, 114, 117, 101], [102, 97, 108, 115, 101], [40], [41]]
def fixedFrom (w : List UInt8) : Nat → Nat → Option Nat
  | 0, _ => none
  | n + 1, k => if texts.getD k [] = w then some k else fixedFrom w n (k + 1)
/-- the Kind of a sign or a word -/
def fixedK (w : List UInt8) : Option Nat := fixedFrom w 16 3

def fixTok (l : List UInt8) (k e : Nat) : Option (Tk × Nat) := (fixedK (mid l k e)).map fun j : Nat => (((j : Int), 0, (k : Int)), e)
/-- the token that begins at byte k, and where it ends -/
def tokAt (l : List UInt8) (k : Nat) : Option (Tk × Nat) :=
  if isDg (l.getD k 0) = true then
    if val (mid l k (upto isDg l k)) ≤ 9223372036854775807 then some ((1, (val (mid l k (upto isDg l k)) : Int), (k : Int)), upto isDg l k) else none
  else if isLe (l.getD k 0) = true then
    if upto isLe l k = k + 1 then some ((2, ((l.getD k 0).toNat : Int) - 97, (k : Int)), k + 1) else fixTok l k (upto isLe l k)
  else if k + 2 ≤ l.length ∧ fixedK (mid l k (k + 2)) ≠ none then fixTok l k (k + 2)
  else fixTok l k (k + 1)

def scanF : Nat → List UInt8 → Nat → List Tk → List Tk × Int
  | 0, _, _, acc => (acc, -1)
  | n + 1, l, k, acc =>
    if k < l.length then
      if isSp (l.getD k 0) = true then scanF n l (k + 1) acc
      else match tokAt l k with
        | none => ([], (k : Int))
        | some (t, e) => scanF n l e (acc ++ [t])
    else (acc, -1)
/-- the tokens from byte k on, behind those that are there; -1, or the byte of the first that is none -/
def scan (l : List UInt8) (k : Nat) (acc : List Tk) : List Tk × Int := scanF (l.length - k) l k acc

theorem getD_at (l : List UInt8) (k : Nat) (h : k < l.length) : l.getD k 0 = l[k] := by
  simp [List.getD, List.getElem?_eq_getElem h]

theorem upto_yes (p : UInt8 → Bool) (l : List UInt8) (k : Nat) (h : k < l.length) (hp : p (l.getD k 0) = true) : upto p l k = upto p l (k + 1) := by
  rw [getD_at l k h] at hp
  unfold upto; rw [List.drop_eq_getElem_cons h, List.takeWhile_cons, if_pos hp, List.length_cons]; omega
theorem upto_no (p : UInt8 → Bool) (l : List UInt8) (k : Nat) (h : k < l.length) (hp : p (l.getD k 0) = false) : upto p l k = k := by
  rw [getD_at l k h] at hp
  unfold upto; rw [List.drop_eq_getElem_cons h, List.takeWhile_cons, hp]; simp
theorem upto_end (p : UInt8 → Bool) (l : List UInt8) (k : Nat) (h : l.length ≤ k) : upto p l k = k := by
  unfold upto; rw [List.drop_eq_nil_of_le h]; simp
theorem le_upto (p : UInt8 → Bool) (l : List UInt8) (k : Nat) : k ≤ upto p l k := by unfold upto; omega
theorem upto_le (p : UInt8 → Bool) (l : List UInt8) (k : Nat) (h : k ≤ l.length) : upto p l k ≤ l.length := by
  unfold upto
  have := (List.takeWhile_sublist p (l := l.drop k)).length_le
  rw [List.length_drop] at this
  omega
theorem mid_upto (p : UInt8 → Bool) (l : List UInt8) (k : Nat) : mid l k (upto p l k) = (l.drop k).takeWhile p := by
  unfold mid upto
  rw [Nat.add_sub_cancel_left]
  exact (List.prefix_iff_eq_take.1 (List.takeWhile_prefix p)).symm
theorem mid_succ (l : List UInt8) (a k : Nat) (h : a ≤ k) (hk : k < l.length) : mid l a (k + 1) = mid l a k ++ [l.getD k 0] := by
  unfold mid
  rw [getD_at l k hk, show k + 1 - a = (k - a) + 1 from by omega, List.take_succ_eq_append_getElem (by rw [List.length_drop]; omega)]
  simp only [List.getElem_drop]
  congr 3
  omega
theorem mid_self (l : List UInt8) (a : Nat) : mid l a a = [] := by unfold mid; simp
theorem mid_length (l : List UInt8) (a b : Nat) (h : b ≤ l.length) : (mid l a b).length = b - a := by
  unfold mid; rw [List.length_take, List.length_drop]; omega
theorem val_snoc (l : List UInt8) (c : UInt8) : val (l ++ [c]) = 10 * val l + (c.toNat - 48) := by
  unfold val; rw [List.foldl_append]; rfl

theorem tokAt_gt {l : List UInt8} {k e : Nat} {t : Tk} (hk : k < l.length) (h : tokAt l k = some (t, e)) : k < e ∧ e ≤ l.length := by
  unfold tokAt fixTok at h
  have hd := upto_le isDg l (k + 1) (by omega)
  have hl := upto_le isLe l (k + 1) (by omega)
  have hd2 := le_upto isDg l (k + 1)
  have hl2 := le_upto isLe l (k + 1)
  by_cases c1 : isDg (l.getD k 0) = true
  · rw [if_pos c1, upto_yes isDg l k hk c1] at h
    by_cases c2 : val (mid l k (upto isDg l (k + 1))) ≤ 9223372036854775807
    · rw [if_pos c2] at h; simp only [Option.some.injEq, Prod.mk.injEq] at h; omega
    · rw [if_neg c2] at h; cases h
  · rw [if_neg c1] at h
    by_cases c2 : isLe (l.getD k 0) = true
    · rw [if_pos c2, upto_yes isLe l k hk c2] at h
      by_cases c3 : upto isLe l (k + 1) = k + 1
      · rw [if_pos c3] at h; simp only [Option.some.injEq, Prod.mk.injEq] at h; omega
      · rw [if_neg c3, Option.map_eq_some_iff] at h
        obtain ⟨j, _, h⟩ := h
        simp only [Prod.mk.injEq] at h; omega
    · rw [if_neg c2] at h
      by_cases c3 : k + 2 ≤ l.length ∧ fixedK (mid l k (k + 2)) ≠ none
      · rw [if_pos c3, Option.map_eq_some_iff] at h
        obtain ⟨j, _, h⟩ := h
        simp only [Prod.mk.injEq] at h; omega
      · rw [if_neg c3, Option.map_eq_some_iff] at h
        obtain ⟨j, _, h⟩ := h
        simp only [Prod.mk.injEq] at h; omega

theorem scanF_more (l : List UInt8) : ∀ (n m k : Nat) (acc : List Tk), l.length - k ≤ n → l.length - k ≤ m → scanF n l k acc = scanF m l k acc
  | 0, 0, _, _, _, _ => rfl
  | 0, m + 1, k, acc, h, _ => by rw [scanF, scanF, if_neg (by omega)]
  | n + 1, 0, k, acc, _, h => by rw [scanF, scanF, if_neg (by omega)]
  | n + 1, m + 1, k, acc, h1, h2 => by
    rw [scanF, scanF]
    by_cases hk : k < l.length
    · rw [if_pos hk, if_pos hk]
      by_cases hs : isSp (l.getD k 0) = true
      · rw [if_pos hs, if_pos hs]; exact scanF_more l n m (k + 1) acc (by omega) (by omega)
      · rw [if_neg hs, if_neg hs]
        cases ht : tokAt l k with
        | none => rfl
        | some x =>
          obtain ⟨t, e⟩ := x
          have := tokAt_gt hk ht
          exact scanF_more l n m e (acc ++ [t]) (by omega) (by omega)
    · rw [if_neg hk, if_neg hk]

theorem scan_end (l : List UInt8) (k : Nat) (acc : List Tk) (h : l.length ≤ k) : scan l k acc = (acc, -1) := by
  unfold scan; rw [show l.length - k = 0 from by omega]; rfl
theorem scan_sp (l : List UInt8) (k : Nat) (acc : List Tk) (h : k < l.length) (hs : isSp (l.getD k 0) = true) : scan l k acc = scan l (k + 1) acc := by
  unfold scan; rw [show l.length - k = (l.length - (k + 1)) + 1 from by omega, scanF, if_pos h, if_pos hs]
theorem scan_bad (l : List UInt8) (k : Nat) (acc : List Tk) (h : k < l.length) (hs : isSp (l.getD k 0) = false) (ht : tokAt l k = none) : scan l k acc = ([], (k : Int)) := by
  unfold scan; rw [show l.length - k = (l.length - (k + 1)) + 1 from by omega, scanF, if_pos h, if_neg (by rw [hs]; exact Bool.false_ne_true), ht]
theorem scan_tok (l : List UInt8) (k e : Nat) (t : Tk) (acc : List Tk) (h : k < l.length) (hs : isSp (l.getD k 0) = false) (ht : tokAt l k = some (t, e)) : scan l k acc = scan l e (acc ++ [t]) := by
  have hg := tokAt_gt h ht
  unfold scan; rw [show l.length - k = (l.length - (k + 1)) + 1 from by omega, scanF, if_pos h, if_neg (by rw [hs]; exact Bool.false_ne_true), ht]
  exact scanF_more l _ _ e _ (by omega) (by omega)
theorem scan_skip (l : List UInt8) (acc : List Tk) : ∀ (n k : Nat), l.length - k ≤ n → scan l k acc = scan l (upto isSp l k) acc
  | 0, k, h => by rw [upto_end isSp l k (by omega)]
  | n + 1, k, h => by
    by_cases hk : k < l.length
    · cases hs : isSp (l.getD k 0) with
      | true => rw [scan_sp l k acc hk hs, upto_yes isSp l k hk hs]; exact scan_skip l acc n (k + 1) (by omega)
      | false => rw [upto_no isSp l k hk hs]
    · rw [upto_end isSp l k (by omega)]
theorem scan_over (l : List UInt8) (k : Nat) (acc : List Tk) : scan l k acc = scan l (upto isSp l k) acc := scan_skip l acc _ k (Nat.le_refl _)
theorem upto_stop (p : UInt8 → Bool) (l : List UInt8) : ∀ (n k : Nat), l.length - k ≤ n → upto p l k < l.length → p (l.getD (upto p l k) 0) = false
  | 0, k, h, h2 => by have := le_upto p l k; omega
  | n + 1, k, h, h2 => by
    by_cases hk : k < l.length
    · cases hs : p (l.getD k 0) with
      | true => rw [upto_yes p l k hk hs] at h2 ⊢; exact upto_stop p l n (k + 1) (by omega) h2
      | false => rw [upto_no p l k hk hs]; exact hs
    · have := le_upto p l k; omega
theorem upto_off (p : UInt8 → Bool) (l : List UInt8) (k : Nat) (h : upto p l k < l.length) : p (l.getD (upto p l k) 0) = false := upto_stop p l _ k (Nat.le_refl _) h

/-! ### strconv.ParseInt at digits alone -/
def valOn (n : Nat) (l : List UInt8) : Nat := l.foldl (fun n c => 10 * n + (c.toNat - 48)) n
theorem le_valOn : ∀ (l : List UInt8) (n : Nat), n ≤ valOn n l
  | [], n => Nat.le_refl _
  | c :: r, n => by have := le_valOn r (10 * n + (c.toNat - 48)); unfold valOn at this ⊢; rw [List.foldl_cons]; omega
theorem parseUintM_digits : ∀ (l : List UInt8) (n : Nat), (∀ c ∈ l, isDg c = true) → n ≤ 18446744073709551615 →
    Lib.parseUintM 18446744073709551615 n l = if valOn n l ≤ 18446744073709551615 then .ok (valOn n l) else .range
  | [], n, _, h => by rw [Lib.parseUintM, valOn, List.foldl_nil, if_pos h]
  | c :: r, n, hd, h => by
    have hc := hd c (by simp)
    simp only [isDg, Bool.and_eq_true, decide_eq_true_eq] at hc
    have hv : valOn n (c :: r) = valOn (10 * n + (c.toNat - 48)) r := rfl
    have hl := le_valOn r (10 * n + (c.toNat - 48))
    rw [Lib.parseUintM, if_pos hc, hv]
    by_cases h1 : 1844674407370955162 ≤ n
    · rw [if_pos h1, if_neg (by omega)]
    · rw [if_neg h1]
      by_cases h2 : 18446744073709551615 < n * 10 + (c.toNat - 48)
      · rw [if_pos h2, if_neg (by omega)]
      · rw [if_neg h2, show n * 10 + (c.toNat - 48) = 10 * n + (c.toNat - 48) from by omega]
        exact parseUintM_digits r _ (fun x hx => hd x (by simp [hx])) (by omega)
theorem parseInt_digits (l : List UInt8) (hn : l ≠ []) (hd : ∀ c ∈ l, isDg c = true) :
    Lib.parseIntB 64 l = if val l ≤ 9223372036854775807 then .ok (val l : Int) else .range := by
  obtain ⟨c, r, rfl⟩ := List.exists_cons_of_ne_nil hn
  have hc := hd c (by simp)
  simp only [isDg, Bool.and_eq_true, decide_eq_true_eq] at hc
  have h := parseUintM_digits (c :: r) 0 hd (by omega)
  have hv : valOn 0 (c :: r) = val (c :: r) := rfl
  rw [hv] at h
  unfold Lib.parseIntB
  simp only
  rw [if_neg (by omega : ¬ (c.toNat = 43 ∨ c.toNat = 45))]
  unfold Lib.parseUintB
  rw [if_neg (by simp), show 2 ^ 64 - 1 = 18446744073709551615 from by decide, h]
  by_cases h1 : val (c :: r) ≤ 18446744073709551615
  · rw [if_pos h1]
    simp only
    rw [if_neg (by omega : ¬ (c.toNat = 45 ∧ 2 ^ (64 - 1) < val (c :: r))), if_neg (by omega : ¬ c.toNat = 45)]
    by_cases h2 : val (c :: r) ≤ 9223372036854775807
    · rw [if_pos h2, if_neg (by omega)]
    · rw [if_neg h2, if_pos (by omega)]
  · rw [if_neg h1, if_neg (by omega)]
theorem digits_of_mid (l : List UInt8) (k : Nat) : ∀ c ∈ mid l k (upto isDg l k), isDg c = true := by
  rw [mid_upto]
  intro c hc
  exact List.all_eq_true.1 (List.all_takeWhile (p := isDg)) c hc

/-! ### signs and words -/
theorem fixedFrom_here (w : List UInt8) (k : Nat) (hk : k ≤ 18) (h : texts.getD k [] = w) : fixedFrom w (19 - k) k = some k := by
  rw [show 19 - k = (18 - k) + 1 from by omega, fixedFrom, if_pos h]
theorem fixedFrom_next (w : List UInt8) (k : Nat) (hk : k ≤ 18) (h : ¬ texts.getD k [] = w) : fixedFrom w (19 - k) k = fixedFrom w (19 - (k + 1)) (k + 1) := by
  rw [show 19 - k = (19 - (k + 1)) + 1 from by omega, fixedFrom, if_neg h]
end Go.Proofs.YtmiampdeniihmaaDoor
