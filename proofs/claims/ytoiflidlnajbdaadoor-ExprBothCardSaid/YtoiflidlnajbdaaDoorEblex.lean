/- Plain facts on texts in brackets: the tokens of a text that stands in another one, ahead of a closing bracket; reading them there. No program in this text. -/
import Derived.Test.YtoiflidlnajbdaaDoorZpure
import Derived.RowKit
namespace Go.Proofs.YtoiflidlnajbdaaDoor
open Go.RowKit
set_option linter.unusedVariables false

def sh (d : Nat) (t : Tk) : Tk := (t.1, t.2.1, t.2.2 + (d : Int))
theorem tw_stop (p : UInt8 → Bool) (c : UInt8) (r : List UInt8) (hc : p c = false) : ∀ x : List UInt8, (x ++ c :: r).takeWhile p = x.takeWhile p
  | [] => by simp [List.takeWhile, hc]
  | y :: x => by
    rw [List.cons_append, List.takeWhile_cons, List.takeWhile_cons]
    cases p y with
    | true => simp [tw_stop p c r hc x]
    | false => rfl
/-- a stands in l behind d bytes, and a closing bracket behind it -/
def In (l a : List UInt8) (d : Nat) : Prop := ∃ pre post, l = pre ++ (a ++ 41 :: post) ∧ pre.length = d
theorem In.drop {l a : List UInt8} {d k : Nat} (h : In l a d) (hk : k ≤ a.length) : ∃ post, l.drop (d + k) = a.drop k ++ 41 :: post := by
  obtain ⟨pre, post, rfl, rfl⟩ := h
  exact ⟨post, by rw [← List.drop_drop, List.drop_left, List.drop_append_of_le_length hk]⟩
theorem In.len {l a : List UInt8} {d : Nat} (h : In l a d) : d + a.length + 1 ≤ l.length := by
  obtain ⟨pre, post, rfl, rfl⟩ := h
  simp; omega
theorem In.getD {l a : List UInt8} {d k : Nat} (h : In l a d) (hk : k < a.length) : l.getD (d + k) 0 = a.getD k 0 := by
  obtain ⟨pre, post, rfl, rfl⟩ := h
  rw [List.getD, List.getElem?_append_right (by omega), Nat.add_sub_cancel_left, List.getElem?_append_left hk, List.getD]
theorem In.close {l a : List UInt8} {d : Nat} (h : In l a d) : l.getD (d + a.length) 0 = 41 := by
  obtain ⟨pre, post, rfl, rfl⟩ := h
  rw [List.getD, List.getElem?_append_right (by omega), Nat.add_sub_cancel_left, List.getElem?_append_right (by omega)]
  simp
theorem In.word {l a : List UInt8} {d k : Nat} (h : In l a d) (hk : k ≤ a.length) (p : UInt8 → Bool) (hp : p 41 = false) : (l.drop (d + k)).takeWhile p = (a.drop k).takeWhile p := by
  obtain ⟨post, hd⟩ := h.drop hk
  rw [hd, tw_stop p 41 post hp]
theorem In.upto {l a : List UInt8} {d k : Nat} (h : In l a d) (hk : k ≤ a.length) (p : UInt8 → Bool) (hp : p 41 = false) : upto p l (d + k) = d + upto p a k := by
  unfold Proofs.YtoiflidlnajbdaaDoor.upto
  rw [h.word hk p hp]; omega
theorem In.midw {l a : List UInt8} {d k : Nat} (h : In l a d) (hk : k ≤ a.length) (p : UInt8 → Bool) (hp : p 41 = false) : mid l (d + k) (d + Proofs.YtoiflidlnajbdaaDoor.upto p a k) = mid a k (Proofs.YtoiflidlnajbdaaDoor.upto p a k) := by
  rw [← h.upto hk p hp, mid_upto, mid_upto, h.word hk p hp]
theorem fix_shift {l a : List UInt8} {d k e : Nat} (h : mid l (d + k) (d + e) = mid a k e) : fixTok l (d + k) (d + e) = (fixTok a k e).map fun x => (sh d x.1, d + x.2) := by
  unfold fixTok
  rw [h]
  cases fixedK (mid a k e) with
  | none => rfl
  | some j => simp [sh]; omega
theorem none_close (c : UInt8) (h : isLe c = false) : fixedK [c, 41] = none := by
  rw [fixed_sign2 c 41 h]
  simp
theorem tokAt_in {l a : List UInt8} {d k : Nat} (h : In l a d) (hk : k < a.length) : tokAt l (d + k) = (tokAt a k).map fun x => (sh d x.1, d + x.2) := by
  have hg := h.getD hk
  have hlen := h.len
  by_cases h1 : isDg (a.getD k 0) = true
  · unfold tokAt
    rw [hg, if_pos h1, if_pos h1, h.upto (by omega) isDg (by decide), h.midw (by omega) isDg (by decide)]
    by_cases hv : val (mid a k (upto isDg a k)) ≤ 9223372036854775807
    · rw [if_pos hv, if_pos hv]; simp [sh]; omega
    · rw [if_neg hv, if_neg hv]; rfl
  · by_cases h2 : isLe (a.getD k 0) = true
    · unfold tokAt
      rw [hg, if_neg h1, if_neg h1, if_pos h2, if_pos h2, h.upto (by omega) isLe (by decide)]
      by_cases hu : upto isLe a k = k + 1
      · rw [if_pos hu, if_pos (by omega)]; simp [sh]; omega
      · rw [if_neg hu, if_neg (by omega)]
        exact fix_shift (h.midw (by omega) isLe (by decide))
    · unfold tokAt
      rw [hg, if_neg h1, if_neg h1, if_neg h2, if_neg h2]
      by_cases hk2 : k + 2 ≤ a.length
      · have hm : mid l (d + k) (d + k + 2) = mid a k (k + 2) := by
          rw [mid_two l (d + k) (by omega), mid_two a k hk2, hg, show d + k + 1 = d + (k + 1) by omega, h.getD (by omega)]
        rw [hm]
        by_cases hf : fixedK (mid a k (k + 2)) ≠ none
        · rw [if_pos ⟨by omega, hf⟩, if_pos ⟨hk2, hf⟩]
          exact fix_shift (e := k + 2) hm
        · rw [if_neg (fun hc => hf hc.2), if_neg (fun hc => hf hc.2)]
          exact fix_shift (e := k + 1) (by rw [show d + (k + 1) = d + k + 1 by omega, mid_one l (d + k) (by omega), mid_one a k hk, hg])
      · have hm : mid l (d + k) (d + k + 2) = [a.getD k 0, 41] := by
          rw [mid_two l (d + k) (by omega), hg, show d + k + 1 = d + a.length by omega, h.close]
        rw [hm, if_neg (fun hc => hc.2 (none_close _ (by simpa using h2))), if_neg (fun hc => hk2 hc.1)]
        exact fix_shift (e := k + 1) (by rw [show d + (k + 1) = d + k + 1 by omega, mid_one l (d + k) (by omega), mid_one a k hk, hg])
theorem scan_in {l a : List UInt8} {d : Nat} (h : In l a d) : ∀ (n k : Nat) (acc R : List Tk), a.length - k ≤ n → k ≤ a.length → scan a k acc = (R, -1) → ∃ ts, R = acc ++ ts ∧ ∀ acc', scan l (d + k) acc' = scan l (d + a.length) (acc' ++ ts.map (sh d))
  | n, k, acc, R, hn, hk, hs => by
    rcases Nat.lt_or_ge k a.length with hlt | hge
    · cases n with
      | zero => omega
      | succ n =>
        have hlen := h.len
        have hg := h.getD hlt
        by_cases hsp : isSp (a.getD k 0) = true
        · rw [scan_sp a k acc hlt hsp] at hs
          obtain ⟨ts, h1, h2⟩ := scan_in h n (k + 1) acc R (by omega) (by omega) hs
          exact ⟨ts, h1, fun acc' => by rw [scan_sp l (d + k) acc' (by omega) (by rw [hg]; exact hsp), show d + k + 1 = d + (k + 1) by omega]; exact h2 acc'⟩
        · have hsp' : isSp (a.getD k 0) = false := by simpa using hsp
          cases ht : tokAt a k with
          | none => rw [scan_bad a k acc hlt hsp' ht] at hs; simp at hs
          | some x =>
            obtain ⟨t, e⟩ := x
            obtain ⟨g1, g2⟩ := tokAt_gt hlt ht
            rw [scan_tok a k e t acc hlt hsp' ht] at hs
            obtain ⟨ts, h1, h2⟩ := scan_in h n e (acc ++ [t]) R (by omega) g2 hs
            refine ⟨t :: ts, by rw [h1]; simp, fun acc' => ?_⟩
            rw [scan_tok l (d + k) (d + e) (sh d t) acc' (by omega) (by rw [hg]; exact hsp') (by rw [tokAt_in h hlt, ht]; rfl), h2]
            simp
    · obtain rfl : k = a.length := by omega
      rw [scan_end a a.length acc (Nat.le_refl _)] at hs
      injection hs with hs
      exact ⟨[], by rw [List.append_nil]; exact hs.symm, fun acc' => by simp⟩
end Go.Proofs.YtoiflidlnajbdaaDoor
