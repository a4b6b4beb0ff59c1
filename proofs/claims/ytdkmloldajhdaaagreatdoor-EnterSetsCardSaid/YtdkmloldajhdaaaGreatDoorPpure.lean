/- Plain functions on lists of tokens: what reading an expression comes to (layer 3's document: what stands weakest is read first), with as many steps as are wanted, and that some number of steps is always enough. No program in this text. -/
import Derived.Test.YtdkmloldajhdaaaGreatDoorZpure
namespace Go.Proofs.YtdkmloldajhdaaaGreatDoor
set_option linter.unusedVariables false

/-- what reading comes to: the place behind it, and the postfix; or the place where it can't go on -/
inductive Res where
  | ok (k : Nat) (o : List Tk)
  | bad (k : Nat)
/-- the Kind of a token; 0 behind the last one -/
def knd (ts : List Tk) (k : Nat) : Int := (ts[k]?.map fun t => t.1).getD 0
def num (ts : List Tk) (k : Nat) : Int := (ts[k]?.map fun t => t.2.1).getD 0
/-- how strongly a Kind binds -/
def lvl (x : Int) : Nat :=
  if x = 13 then 1 else if x = 12 then 2 else if 8 ≤ x ∧ x ≤ 11 then 3 else if x = 3 ∨ x = 4 then 4 else if 5 ≤ x ∧ x ≤ 7 then 5 else 0
def isOpd (x : Int) : Bool := decide (x = 1) || decide (x = 2) || decide (x = 15) || decide (x = 16)
def thenR (r : Option Res) (f : Nat → List Tk → Option Res) : Option Res :=
  match r with
  | none => none
  | some (.bad k) => some (.bad k)
  | some (.ok k o) => f k o
/-- 1 to 6: what binds at least so strongly; 11, 12, 14, 15: what may follow the first of a row -/
def rd (ts : List Tk) : Nat → Nat → Nat → List Tk → Option Res
  | 0, _, _, _ => none
  | n + 1, lv, k, out =>
    if lv = 6 then
      if knd ts k = 4 then thenR (rd ts n 6 (k + 1) out) fun k' o => some (.ok k' (o ++ [(19, 0, 0)]))
      else if isOpd (knd ts k) = true then some (.ok (k + 1) (out ++ [(knd ts k, num ts k, 0)]))
      else if knd ts k = 17 then thenR (rd ts n 1 (k + 1) out) fun k' o => if knd ts k' = 18 then some (.ok (k' + 1) o) else some (.bad k')
      else some (.bad k)
    else if lv = 3 then
      if knd ts k = 14 then thenR (rd ts n 3 (k + 1) out) fun k' o => some (.ok k' (o ++ [(14, 0, 0)]))
      else thenR (rd ts n 4 k out) fun k' o =>
        if lvl (knd ts k') = 3 then thenR (rd ts n 4 (k' + 1) o) fun k'' o' => some (.ok k'' (o' ++ [(knd ts k', 0, 0)])) else some (.ok k' o)
    else if lv < 6 then thenR (rd ts n (lv + 1) k out) fun k' o => rd ts n (10 + lv) k' o
    else if lvl (knd ts k) = lv - 10 ∧ k < ts.length then thenR (rd ts n (lv - 9) (k + 1) out) fun k' o => rd ts n lv k' (o ++ [(knd ts k, 0, 0)])
    else some (.ok k out)

theorem knd_lt {ts : List Tk} {k : Nat} (h : knd ts k ≠ 0) : k < ts.length := by
  rcases Nat.lt_or_ge k ts.length with h1 | h1
  · exact h1
  · exact absurd (by unfold knd; rw [List.getElem?_eq_none h1]; rfl) h
theorem knd_end (ts : List Tk) : knd ts ts.length = 0 := by unfold knd; simp
theorem knd_at {ts : List Tk} {k : Nat} {t : Tk} (h : ts[k]? = some t) : knd ts k = t.1 := by unfold knd; rw [h]; rfl
theorem num_at {ts : List Tk} {k : Nat} {t : Tk} (h : ts[k]? = some t) : num ts k = t.2.1 := by unfold num; rw [h]; rfl
theorem lvl_zero : lvl 0 = 0 := by decide
theorem lvl_lt {ts : List Tk} {k : Nat} (h : lvl (knd ts k) ≠ 0) : k < ts.length := knd_lt (fun h0 => h (by rw [h0]; exact lvl_zero))
theorem opd_lt {ts : List Tk} {k : Nat} (h : isOpd (knd ts k) = true) : k < ts.length := knd_lt (fun h0 => by rw [h0] at h; exact absurd h (by decide))
theorem lvl_le (x : Int) : lvl x ≤ 5 := by unfold lvl; split; · omega
                                           split; · omega
                                           split; · omega
                                           split; · omega
                                           split <;> omega

/-! ### the steps -/
theorem rd6_neg {ts : List Tk} {k : Nat} (n : Nat) (out : List Tk) (h : knd ts k = 4) : rd ts (n + 1) 6 k out = thenR (rd ts n 6 (k + 1) out) fun k' o => some (.ok k' (o ++ [(19, 0, 0)])) := by
  rw [rd, if_pos rfl, if_pos h]
theorem rd6_opd {ts : List Tk} {k : Nat} (n : Nat) (out : List Tk) (h : isOpd (knd ts k) = true) : rd ts (n + 1) 6 k out = some (.ok (k + 1) (out ++ [(knd ts k, num ts k, 0)])) := by
  rw [rd, if_pos rfl, if_neg (fun h4 => by rw [h4] at h; exact absurd h (by decide)), if_pos h]
theorem rd6_open {ts : List Tk} {k : Nat} (n : Nat) (out : List Tk) (h : knd ts k = 17) : rd ts (n + 1) 6 k out = thenR (rd ts n 1 (k + 1) out) fun k' o => if knd ts k' = 18 then some (.ok (k' + 1) o) else some (.bad k') := by
  rw [rd, if_pos rfl, if_neg (by omega), if_neg (by rw [h]; decide), if_pos h]
theorem rd6_bad {ts : List Tk} {k : Nat} (n : Nat) (out : List Tk) (h1 : knd ts k ≠ 4) (h2 : isOpd (knd ts k) = false) (h3 : knd ts k ≠ 17) : rd ts (n + 1) 6 k out = some (.bad k) := by
  rw [rd, if_pos rfl, if_neg h1, if_neg (by rw [h2]; decide), if_neg h3]
theorem rd3_not {ts : List Tk} {k : Nat} (n : Nat) (out : List Tk) (h : knd ts k = 14) : rd ts (n + 1) 3 k out = thenR (rd ts n 3 (k + 1) out) fun k' o => some (.ok k' (o ++ [(14, 0, 0)])) := by
  rw [rd, if_neg (by omega), if_pos rfl, if_pos h]
theorem rd3_cmp {ts : List Tk} {k : Nat} (n : Nat) (out : List Tk) (h : knd ts k ≠ 14) : rd ts (n + 1) 3 k out = thenR (rd ts n 4 k out) fun k' o =>
        if lvl (knd ts k') = 3 then thenR (rd ts n 4 (k' + 1) o) fun k'' o' => some (.ok k'' (o' ++ [(knd ts k', 0, 0)])) else some (.ok k' o) := by
  rw [rd, if_neg (by omega), if_pos rfl, if_neg h]
theorem rd_row {ts : List Tk} {k : Nat} (n lv : Nat) (out : List Tk) (h1 : lv < 6) (h2 : lv ≠ 3) : rd ts (n + 1) lv k out = thenR (rd ts n (lv + 1) k out) fun k' o => rd ts n (10 + lv) k' o := by
  rw [rd, if_neg (by omega), if_neg h2, if_pos h1]
theorem rd_rest {ts : List Tk} {k : Nat} (n lv : Nat) (out : List Tk) (h0 : 1 ≤ lv) (h : lvl (knd ts k) = lv) : rd ts (n + 1) (10 + lv) k out = thenR (rd ts n (lv + 1) (k + 1) out) fun k' o => rd ts n (10 + lv) k' (o ++ [(knd ts k, 0, 0)]) := by
  rw [rd, if_neg (by omega), if_neg (by omega), if_neg (by omega), if_pos ⟨by omega, lvl_lt (by omega)⟩, show 10 + lv - 9 = lv + 1 from by omega]
theorem rd_done {ts : List Tk} {k : Nat} (n lv : Nat) (out : List Tk) (h : lvl (knd ts k) ≠ lv) : rd ts (n + 1) (10 + lv) k out = some (.ok k out) := by
  rw [rd, if_neg (by omega), if_neg (by omega), if_neg (by omega), if_neg (by omega)]

theorem thenR_some {r : Option Res} {f : Nat → List Tk → Option Res} {R : Res} (h : thenR r f = some R) : (∃ k, r = some (.bad k) ∧ R = .bad k) ∨ ∃ k o, r = some (.ok k o) ∧ f k o = some R := by
  unfold thenR at h
  rcases r with _ | (⟨k, o⟩ | k)
  · cases h
  · exact .inr ⟨k, o, rfl, h⟩
  · injection h with h; exact .inl ⟨k, rfl, h.symm⟩

/-! ### where it ends, and how much it writes -/
def Fits (ts : List Tk) (k : Nat) (out : List Tk) : Res → Prop
  | .ok k' o => k ≤ k' ∧ k' ≤ ts.length ∧ o.length + k ≤ out.length + k'
  | .bad k' => k ≤ k' ∧ k' ≤ ts.length
theorem rd_fits (ts : List Tk) : ∀ (n lv k : Nat) (out : List Tk) (R : Res), rd ts n lv k out = some R → k ≤ ts.length → Fits ts k out R
  | 0, _, _, _, _, h, _ => by rw [rd] at h; cases h
  | n + 1, lv, k, out, R, h, hk => by
    by_cases h6 : lv = 6
    · subst h6
      by_cases c1 : knd ts k = 4
      · have hlt := knd_lt (ts := ts) (k := k) (by omega)
        rw [rd6_neg n out c1] at h
        rcases thenR_some h with ⟨k', h1, rfl⟩ | ⟨k', o, h1, h2⟩
        · have := rd_fits ts n _ _ _ _ h1 (by omega); unfold Fits at this ⊢; omega
        · have := rd_fits ts n _ _ _ _ h1 (by omega); injection h2 with h2; subst h2; unfold Fits at this ⊢; simp only [List.length_append, List.length_cons, List.length_nil]; omega
      · by_cases c2 : isOpd (knd ts k) = true
        · have hlt := opd_lt c2
          rw [rd6_opd n out c2] at h; injection h with h; subst h; unfold Fits; simp only [List.length_append, List.length_cons, List.length_nil]; omega
        · by_cases c3 : knd ts k = 17
          · have hlt := knd_lt (ts := ts) (k := k) (by omega)
            rw [rd6_open n out c3] at h
            rcases thenR_some h with ⟨k', h1, rfl⟩ | ⟨k', o, h1, h2⟩
            · have := rd_fits ts n _ _ _ _ h1 (by omega); unfold Fits at this ⊢; omega
            · have := rd_fits ts n _ _ _ _ h1 (by omega)
              by_cases c4 : knd ts k' = 18
              · have hlt := knd_lt (ts := ts) (k := k') (by omega)
                rw [if_pos c4] at h2; injection h2 with h2; subst h2; unfold Fits at this ⊢; omega
              · rw [if_neg c4] at h2; injection h2 with h2; subst h2; unfold Fits at this ⊢; omega
          · rw [rd6_bad n out c1 (by simpa using c2) c3] at h; injection h with h; subst h; unfold Fits; omega
    · by_cases h3 : lv = 3
      · subst h3
        by_cases c1 : knd ts k = 14
        · have hlt := knd_lt (ts := ts) (k := k) (by omega)
          rw [rd3_not n out c1] at h
          rcases thenR_some h with ⟨k', h1, rfl⟩ | ⟨k', o, h1, h2⟩
          · have := rd_fits ts n _ _ _ _ h1 (by omega); unfold Fits at this ⊢; omega
          · have := rd_fits ts n _ _ _ _ h1 (by omega); injection h2 with h2; subst h2; unfold Fits at this ⊢; simp only [List.length_append, List.length_cons, List.length_nil]; omega
        · rw [rd3_cmp n out c1] at h
          rcases thenR_some h with ⟨k', h1, rfl⟩ | ⟨k', o, h1, h2⟩
          · exact rd_fits ts n _ _ _ _ h1 hk
          · have f1 := rd_fits ts n _ _ _ _ h1 hk
            by_cases c4 : lvl (knd ts k') = 3
            · have hlt := lvl_lt (ts := ts) (k := k') (by omega)
              rw [if_pos c4] at h2
              rcases thenR_some h2 with ⟨k'', h3, rfl⟩ | ⟨k'', o', h3, h4⟩
              · have := rd_fits ts n _ _ _ _ h3 (by omega); unfold Fits at this f1 ⊢; omega
              · have := rd_fits ts n _ _ _ _ h3 (by omega); injection h4 with h4; subst h4; unfold Fits at this f1 ⊢; simp only [List.length_append, List.length_cons, List.length_nil]; omega
            · rw [if_neg c4] at h2; injection h2 with h2; subst h2; exact f1
      · by_cases hl : lv < 6
        · rw [rd_row n lv out hl h3] at h
          rcases thenR_some h with ⟨k', h1, rfl⟩ | ⟨k', o, h1, h2⟩
          · exact rd_fits ts n _ _ _ _ h1 hk
          · have f1 := rd_fits ts n _ _ _ _ h1 hk
            have f2 := rd_fits ts n _ _ _ _ h2 (by unfold Fits at f1; omega)
            cases R <;> unfold Fits at f1 f2 ⊢ <;> omega
        · by_cases hc : lvl (knd ts k) = lv - 10 ∧ k < ts.length
          · have hlt := hc.2
            rw [rd, if_neg h6, if_neg h3, if_neg hl, if_pos hc] at h
            rcases thenR_some h with ⟨k', h1, rfl⟩ | ⟨k', o, h1, h2⟩
            · have := rd_fits ts n _ _ _ _ h1 (by omega); unfold Fits at this ⊢; omega
            · have f1 := rd_fits ts n _ _ _ _ h1 (by omega)
              have f2 := rd_fits ts n _ _ _ _ h2 (by unfold Fits at f1; omega)
              cases R <;> unfold Fits at f1 f2 ⊢ <;> simp only [List.length_append, List.length_cons, List.length_nil] at * <;> omega
          · rw [rd, if_neg h6, if_neg h3, if_neg hl, if_neg hc] at h
            injection h with h; subst h; unfold Fits; omega

/-! ### some number of steps is enough -/
def Got (ts : List Tk) (lv k : Nat) (r : Option Res) : Prop := ∃ R, r = some R ∧ ∀ k' o, R = .ok k' o → k' ≤ ts.length ∧ k ≤ k' ∧ (lv ≤ 6 → k < k')
theorem Got.bad (ts : List Tk) (lv k k' : Nat) : Got ts lv k (some (.bad k')) := ⟨_, rfl, fun _ _ h => by cases h⟩
theorem got_then {ts : List Tk} {lv k lv' k1 : Nat} {r : Option Res} {f : Nat → List Tk → Option Res} (h : Got ts lv' k1 r) (hf : ∀ k' o, r = some (.ok k' o) → k' ≤ ts.length → k1 ≤ k' → (lv' ≤ 6 → k1 < k') → Got ts lv k (f k' o)) : Got ts lv k (thenR r f) := by
  obtain ⟨R, rfl, hR⟩ := h
  cases R with
  | bad k' => exact Got.bad ts lv k k'
  | ok k' o => obtain ⟨a, b, c⟩ := hR k' o rfl; exact hf k' o rfl a b c
theorem Got.ok {ts : List Tk} {lv k k' : Nat} (o : List Tk) (h1 : k' ≤ ts.length) (h2 : k ≤ k') (h3 : lv ≤ 6 → k < k') : Got ts lv k (some (.ok k' o)) :=
  ⟨_, rfl, fun a b h => by injection h with ha hb; subst ha; exact ⟨h1, h2, h3⟩⟩
def need (len lv k : Nat) : Nat := 20 * (len - k) + (if lv ≤ 6 then 20 - 2 * lv else 20)
theorem rd_some (ts : List Tk) : ∀ (n lv k : Nat) (out : List Tk), 1 ≤ lv → lv ≤ 6 ∨ 11 ≤ lv → k ≤ ts.length → need ts.length lv k < n → Got ts lv k (rd ts n lv k out)
  | 0, _, _, _, _, _, _, h => by omega
  | n + 1, lv, k, out, h1, h2, hk, h => by
    unfold need at h
    by_cases h6 : lv = 6
    · subst h6
      rw [if_pos (by omega)] at h
      by_cases c1 : knd ts k = 4
      · have hlt := knd_lt (ts := ts) (k := k) (by omega)
        rw [rd6_neg n out c1]
        exact got_then (rd_some ts n 6 (k + 1) out (by omega) (by omega) (by omega) (by unfold need; rw [if_pos (by omega)]; omega)) fun k' o _ a b c => Got.ok _ a (by omega) (by omega)
      · by_cases c2 : isOpd (knd ts k) = true
        · have hlt := opd_lt c2
          rw [rd6_opd n out c2]; exact Got.ok _ (by omega) (by omega) (by omega)
        · by_cases c3 : knd ts k = 17
          · have hlt := knd_lt (ts := ts) (k := k) (by omega)
            rw [rd6_open n out c3]
            refine got_then (rd_some ts n 1 (k + 1) out (by omega) (by omega) (by omega) (by unfold need; rw [if_pos (by omega)]; omega)) fun k' o _ a b c => ?_
            by_cases c4 : knd ts k' = 18
            · have hlt := knd_lt (ts := ts) (k := k') (by omega)
              rw [if_pos c4]; exact Got.ok _ (by omega) (by omega) (by omega)
            · rw [if_neg c4]; exact Got.bad _ _ _ _
          · rw [rd6_bad n out c1 (by simpa using c2) c3]; exact Got.bad _ _ _ _
    · by_cases h3 : lv = 3
      · subst h3
        rw [if_pos (by omega)] at h
        by_cases c1 : knd ts k = 14
        · have hlt := knd_lt (ts := ts) (k := k) (by omega)
          rw [rd3_not n out c1]
          exact got_then (rd_some ts n 3 (k + 1) out (by omega) (by omega) (by omega) (by unfold need; rw [if_pos (by omega)]; omega)) fun k' o _ a b c => Got.ok _ a (by omega) (by omega)
        · rw [rd3_cmp n out c1]
          refine got_then (rd_some ts n 4 k out (by omega) (by omega) (by omega) (by unfold need; rw [if_pos (by omega)]; omega)) fun k' o _ a b c => ?_
          have c' := c (by omega)
          by_cases c4 : lvl (knd ts k') = 3
          · have hlt := lvl_lt (ts := ts) (k := k') (by omega)
            rw [if_pos c4]
            exact got_then (rd_some ts n 4 (k' + 1) o (by omega) (by omega) (by omega) (by unfold need; rw [if_pos (by omega)]; omega)) fun k'' o _ a b c => Got.ok _ a (by omega) (by omega)
          · rw [if_neg c4]; exact Got.ok _ a b (fun _ => c (by omega))
      · by_cases hl : lv < 6
        · rw [if_pos (by omega)] at h
          rw [rd_row n lv out hl h3]
          refine got_then (rd_some ts n (lv + 1) k out (by omega) (by omega) (by omega) (by unfold need; rw [if_pos (by omega)]; omega)) fun k' o _ a b c => ?_
          have c' := c (by omega)
          obtain ⟨R, hR, hf⟩ := rd_some ts n (10 + lv) k' o (by omega) (by omega) (by omega) (by unfold need; rw [if_neg (by omega)]; omega)
          exact ⟨R, hR, fun x y hx => by obtain ⟨p, q, _⟩ := hf x y hx; exact ⟨p, by omega, fun _ => by omega⟩⟩
        · rw [if_neg (by omega)] at h
          obtain ⟨l, rfl⟩ : ∃ l, lv = 10 + l := ⟨lv - 10, by omega⟩
          by_cases hc : lvl (knd ts k) = l
          · have hlt := lvl_lt (ts := ts) (k := k) (by omega)
            have hle := lvl_le (knd ts k)
            rw [rd_rest n l out (by omega) hc]
            refine got_then (rd_some ts n (l + 1) (k + 1) out (by omega) (by omega) (by omega) (by unfold need; rw [if_pos (by omega)]; omega)) fun k' o _ a b c => ?_
            have c' := c (by omega)
            obtain ⟨R, hR, hf⟩ := rd_some ts n (10 + l) k' (o ++ [(knd ts k, 0, 0)]) (by omega) (by omega) (by omega) (by unfold need; rw [if_neg (by omega)]; omega)
            exact ⟨R, hR, fun x y hx => by obtain ⟨p, q, _⟩ := hf x y hx; exact ⟨p, by omega, fun _ => by omega⟩⟩
          · rw [rd_done n l out hc]; exact Got.ok _ hk (by omega) (by omega)
/-- what the whole comes to -/
def readAll (ts : List Tk) : Option Res := rd ts (20 * ts.length + 20) 1 0 []
theorem readAll_some (ts : List Tk) : ∃ R, readAll ts = some R := by
  obtain ⟨R, h, _⟩ := rd_some ts (20 * ts.length + 20) 1 0 [] (by omega) (by omega) (by omega) (by unfold need; rw [if_pos (by omega)]; omega)
  exact ⟨R, h⟩
end Go.Proofs.YtdkmloldajhdaaaGreatDoor
