/- Plain: the tokens of tokens' text, a space at each end, are the same but for their places. No program in this text. -/
import Derived.Test.YtmiampdeniihmaaDoorRefx
import Derived.Test.YtmiampdeniihmaaDoorRefp
namespace Go.Proofs.YtmiampdeniihmaaDoor
set_option linter.unusedVariables false

theorem first_of {l : List UInt8} {k : Nat} {c : UInt8} {r : List UInt8} (h : l.drop k = c :: r) : k < l.length ∧ l.getD k 0 = c := by
  have hk : k < l.length := by
    rcases Nat.lt_or_ge k l.length with h1 | h1
    · exact h1
    · rw [List.drop_eq_nil_of_le h1] at h; cases h
  refine ⟨hk, ?_⟩
  have := getD_drop l k 0
  rw [h] at this
  simpa using this.symm
theorem upto_of {p : UInt8 → Bool} {l : List UInt8} {k : Nat} {w r : List UInt8} (h : l.drop k = w ++ 32 :: r) (hw : ∀ c ∈ w, p c = true) (hs : p 32 = false) : upto p l k = k + w.length ∧ mid l k (upto p l k) = w := by
  have ht : (l.drop k).takeWhile p = w := by
    rw [h, List.takeWhile_append_of_pos hw, List.takeWhile_cons, hs]
    simp
  refine ⟨by unfold upto; rw [ht], ?_⟩
  rw [mid_upto, ht]
theorem mid_of {l : List UInt8} {k : Nat} {w r : List UInt8} (h : l.drop k = w ++ r) : mid l k (k + w.length) = w := by
  unfold mid
  rw [Nat.add_sub_cancel_left, h, List.take_left]
theorem digits_digit (u : Nat) : ∀ c ∈ Lib.decDigits u, isDg c = true := by
  have one : ∀ m, m < 10 → isDg (UInt8.ofNat (48 + m)) = true := by
    intro m hm
    unfold isDg
    rw [UInt8.toNat_ofNat', Nat.mod_eq_of_lt (by omega)]
    simp; omega
  induction u using Nat.strongRecOn with
  | _ u ih =>
    intro c hc
    by_cases h : u < 10
    · rw [Lib.decDigits, dif_pos h] at hc
      obtain rfl := List.mem_singleton.1 hc
      exact one u h
    · rw [Lib.decDigits, dif_neg h] at hc
      rcases List.mem_append.1 hc with hc | hc
      · exact ih (u / 10) (by omega) c hc
      · obtain rfl := List.mem_singleton.1 hc
        exact one (u % 10) (Nat.mod_lt _ (by omega))
theorem val_digits (u : Nat) : val (Lib.decDigits u) = u := by
  have one : ∀ m, m < 10 → (UInt8.ofNat (48 + m)).toNat - 48 = m := by
    intro m hm
    rw [UInt8.toNat_ofNat', Nat.mod_eq_of_lt (by omega)]; omega
  induction u using Nat.strongRecOn with
  | _ u ih =>
    by_cases h : u < 10
    · rw [Lib.decDigits, dif_pos h]
      have := val_snoc [] (UInt8.ofNat (48 + u))
      rw [List.nil_append, one u h] at this
      simpa [val] using this
    · rw [Lib.decDigits, dif_neg h, val_snoc, ih (u / 10) (by omega), one (u % 10) (Nat.mod_lt _ (by omega))]
      omega
theorem digits_cons (u : Nat) : ∃ c r, Lib.decDigits u = c :: r := by
  refine List.exists_cons_of_ne_nil fun h => ?_
  have := decDigits_len u
  rw [h] at this
  have := Lib.nDigits_pos u
  simp at *
  omega

/-- how the table's texts are: words of two letters and more; signs of one byte, to which no space belongs; signs of two -/
theorem table_is (m : Nat) (h3 : 3 ≤ m) (h18 : m ≤ 18) : fixedK (texts.getD m []) = some m ∧
    ((2 ≤ (texts.getD m []).length ∧ ∀ c ∈ texts.getD m [], isLe c = true) ∨ (∃ c, texts.getD m [] = [c] ∧ isDg c = false ∧ isLe c = false ∧ isSp c = false ∧ fixedK [c, 32] = none) ∨ (∃ c d, texts.getD m [] = [c, d] ∧ isDg c = false ∧ isLe c = false ∧ isSp c = false)) := by
  have : m = 3 ∨ m = 4 ∨ m = 5 ∨ m = 6 ∨ m = 7 ∨ m = 8 ∨ m = 9 ∨ m = 10 ∨ m = 11 ∨ m = 12 ∨ m = 13 ∨ m = 14 ∨ m = 15 ∨ m = 16 ∨ m = 17 ∨ m = 18 := by omega
  rcases this with rfl | rfl | rfl | rfl | rfl | rfl | rfl | rfl | rfl | rfl | rfl | rfl | rfl | rfl | rfl | rfl
  all_goals
    refine ⟨by decide, ?_⟩
    first
      | exact .inl ⟨by decide, by decide⟩
      | exact .inr (.inl ⟨_, rfl, by decide, by decide, by decide, by decide⟩)
      | exact .inr (.inr ⟨_, _, rfl, by decide, by decide, by decide⟩)
theorem le_not (c : UInt8) (h : isLe c = true) : isDg c = false ∧ isSp c = false := by
  unfold isLe at h
  unfold isDg isSp
  simp at h ⊢
  omega
theorem dg_not (c : UInt8) (h : isDg c = true) : isSp c = false := by
  unfold isDg at h
  unfold isSp
  simp at h ⊢
  omega

theorem tok_text (l : List UInt8) (k : Nat) (t : Tk) (r : List UInt8) (h : l.drop k = textB t ++ 32 :: r) (hm : mayB t = true) (hn : t.2.1 ≤ 9223372036854775807) :
    k < l.length ∧ isSp (l.getD k 0) = false ∧ tokAt l k = some ((t.1, t.2.1, (k : Int)), k + (textB t).length) := by
  obtain ⟨kd, n, a⟩ := t
  obtain ⟨h1, h2, h3, h4, h5⟩ := mayB_range hm
  simp only at h1 h2 h3 h4 h5 hn ⊢
  by_cases e1 : kd = 1
  · subst e1
    have h0 := h3 rfl
    rw [textB_num n a h0] at h ⊢
    obtain ⟨c, q, hq⟩ := digits_cons n.toNat
    obtain ⟨hk, hc⟩ := first_of (show l.drop k = c :: (q ++ 32 :: r) by rw [h, hq]; rfl)
    have hd : isDg (l.getD k 0) = true := by rw [hc]; exact digits_digit n.toNat c (by rw [hq]; simp)
    obtain ⟨u1, u2⟩ := upto_of h (digits_digit n.toNat) (by decide)
    refine ⟨hk, dg_not _ hd, ?_⟩
    rw [tok_num l k hd, u2, val_digits, if_pos (by omega), u1, show ((n.toNat : Nat) : Int) = n from by omega]
  · by_cases e2 : kd = 2
    · subst e2
      obtain ⟨h0, h25⟩ := h4 rfl
      rw [textB_var n a h0] at h ⊢
      obtain ⟨hk, hc⟩ := first_of (show l.drop k = UInt8.ofNat (97 + n).toNat :: (32 :: r) by rw [h]; rfl)
      have hcn : (UInt8.ofNat (97 + n).toNat).toNat = (97 + n).toNat := by rw [UInt8.toNat_ofNat', Nat.mod_eq_of_lt (by omega)]
      have hl : isLe (l.getD k 0) = true := by rw [hc]; unfold isLe; rw [hcn]; simp; omega
      obtain ⟨u1, u2⟩ := upto_of (p := isLe) h (by intro c hc'; obtain rfl := List.mem_singleton.1 hc'; rw [← hc]; exact hl) (by decide)
      refine ⟨hk, (le_not _ hl).2, ?_⟩
      rw [tok_word l k hk (le_not _ hl).1 hl, if_pos (by rw [u1]; rfl), hc, hcn, show (((97 + n).toNat : Nat) : Int) - 97 = n from by omega]
      rfl
    · have h0 := h5 e1 e2
      subst h0
      obtain ⟨f1, f2⟩ := table_is kd.toNat (by omega) (by omega)
      have ht : textB (kd, 0, a) = texts.getD kd.toNat [] := by rw [textB_fix kd 0 a (by omega) h2]; unfold signT; rw [if_pos ⟨by omega, h2⟩]
      rw [ht] at h ⊢
      generalize texts.getD kd.toNat [] = w at *
      have hkd : ((kd.toNat : Nat) : Int) = kd := by omega
      rcases f2 with ⟨g1, g2⟩ | ⟨c, rfl, g1, g2, g3, g4⟩ | ⟨c, d, rfl, g1, g2, g3⟩
      · obtain ⟨c, q, rfl⟩ : ∃ c q, w = c :: q := List.exists_cons_of_ne_nil (by rintro rfl; simp at g1)
        obtain ⟨hk, hc⟩ := first_of (show l.drop k = c :: (q ++ 32 :: r) by rw [h]; rfl)
        have hl : isLe (l.getD k 0) = true := by rw [hc]; exact g2 c (by simp)
        obtain ⟨u1, u2⟩ := upto_of h g2 (by decide)
        refine ⟨hk, (le_not _ hl).2, ?_⟩
        unfold tokAt
        rw [if_neg (by rw [(le_not _ hl).1]; exact Bool.false_ne_true), if_pos hl, if_neg (by rw [u1]; omega)]
        unfold fixTok
        rw [u2, f1, Option.map_some, u1, hkd]
      · obtain ⟨hk, hc⟩ := first_of (show l.drop k = c :: (32 :: r) by rw [h]; rfl)
        have m1 : mid l k (k + 1) = [c] := mid_of (w := [c]) h
        have m2 : mid l k (k + 2) = [c, 32] := mid_of (w := [c, 32]) (r := r) (by rw [h]; rfl)
        refine ⟨hk, by rw [hc]; exact g3, ?_⟩
        unfold tokAt fixTok
        rw [if_neg (by rw [hc, g1]; exact Bool.false_ne_true), if_neg (by rw [hc, g2]; exact Bool.false_ne_true), m1, m2, if_neg (by rw [g4]; simp), f1, Option.map_some, hkd]
        rfl
      · obtain ⟨hk, hc⟩ := first_of (show l.drop k = c :: (d :: 32 :: r) by rw [h]; rfl)
        have m2 : mid l k (k + 2) = [c, d] := mid_of (w := [c, d]) h
        have hlen : k + 2 ≤ l.length := by
          have := congrArg List.length h
          rw [List.length_drop] at this
          simp at this
          omega
        refine ⟨hk, by rw [hc]; exact g3, ?_⟩
        unfold tokAt fixTok
        rw [if_neg (by rw [hc, g1]; exact Bool.false_ne_true), if_neg (by rw [hc, g2]; exact Bool.false_ne_true), m2, f1, if_pos ⟨hlen, by simp⟩, Option.map_some, hkd]
        rfl

def flat (ts : List Tk) : List UInt8 := ts.flatMap fun t => textB t ++ [32]
def same2 (us ts : List Tk) : Prop := (us.map fun t => (t.1, t.2.1)) = ts.map fun t => (t.1, t.2.1)
theorem scan_flat (l : List UInt8) : ∀ (ts : List Tk) (k : Nat) (acc : List Tk), l.drop k = flat ts → (∀ t ∈ ts, mayB t = true) → (∀ t ∈ ts, t.2.1 ≤ 9223372036854775807) →
    ∃ us, same2 us ts ∧ scan l k acc = (acc ++ us, -1)
  | [], k, acc, h, _, _ => ⟨[], rfl, by rw [scan_end l k acc (List.drop_eq_nil_iff.1 h), List.append_nil]⟩
  | t :: ts, k, acc, h, hm, hn => by
    have hd : l.drop k = textB t ++ 32 :: flat ts := by rw [h]; simp [flat]
    obtain ⟨hk, hs, ht⟩ := tok_text l k t (flat ts) hd (hm t (by simp)) (hn t (by simp))
    have hd2 : l.drop (k + (textB t).length) = 32 :: flat ts := by
      rw [← List.drop_drop, hd, List.drop_left]
    obtain ⟨hk2, hc2⟩ := first_of hd2
    have hd3 : l.drop (k + (textB t).length + 1) = flat ts := by
      rw [← List.drop_drop, hd2]; rfl
    obtain ⟨us, hu, hr⟩ := scan_flat l ts (k + (textB t).length + 1) (acc ++ [(t.1, t.2.1, (k : Int))]) hd3 (fun x hx => hm x (by simp [hx])) (fun x hx => hn x (by simp [hx]))
    refine ⟨(t.1, t.2.1, (k : Int)) :: us, ?_, ?_⟩
    · unfold same2 at hu ⊢
      rw [List.map_cons, List.map_cons, hu]
    · rw [scan_tok l k _ _ acc hk hs ht, scan_sp l _ _ hk2 (by rw [hc2]; rfl), hr]
      simp
theorem flat_join (ts : List Tk) (h : ts ≠ []) : joinB ts ++ [32] = flat ts := by
  obtain ⟨t, r, rfl⟩ := List.exists_cons_of_ne_nil h
  unfold joinB
  rw [List.map_cons, Lib.join_cons]
  have : ∀ (x : List UInt8) (r : List Tk), x ++ Lib.joinTail [32] (r.map textB) ++ [32] = x ++ [32] ++ flat r := by
    intro x r
    induction r generalizing x with
    | nil => simp [Lib.joinTail, flat]
    | cons y r ih =>
      have h1 : Lib.joinTail [32] ((y :: r).map textB) = [32] ++ textB y ++ Lib.joinTail [32] (r.map textB) := by simp [Lib.joinTail]
      rw [h1]
      have := ih (x ++ [32] ++ textB y)
      have h2 : flat (y :: r) = textB y ++ [32] ++ flat r := by simp [flat]
      rw [h2]
      simpa [List.append_assoc] using this
  rw [this]
  simp [flat]
/-- the tokens of the text of tokens, a space at each end -/
theorem scan_back (ts : List Tk) (hm : ∀ t ∈ ts, mayB t = true) (hn : ∀ t ∈ ts, t.2.1 ≤ 9223372036854775807) :
    ∃ us, same2 us ts ∧ scan (32 :: joinB ts ++ [32]) 0 [] = (us, -1) := by
  by_cases h : ts = []
  · subst h
    exact ⟨[], rfl, by decide +kernel⟩
  · obtain ⟨us, hu, hr⟩ := scan_flat (32 :: joinB ts ++ [32]) ts 1 [] (by rw [← flat_join ts h]; rfl) hm hn
    refine ⟨us, hu, ?_⟩
    rw [scan_sp _ 0 [] (by simp) (by rfl), hr]
    simp
end Go.Proofs.YtmiampdeniihmaaDoor
