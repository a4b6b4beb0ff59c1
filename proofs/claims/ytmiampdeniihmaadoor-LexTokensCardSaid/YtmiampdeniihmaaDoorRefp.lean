/- The plain scan's token at a byte, said as the document's answer comes to it. -/
import Derived.Test.YtmiampdeniihmaaDoorRefw
namespace Go.Proofs.YtmiampdeniihmaaDoor
set_option linter.unusedVariables false

theorem getD_drop (l : List UInt8) (k i : Nat) : (l.drop k).getD i 0 = l.getD (k + i) 0 := by
  simp [List.getD, List.getElem?_drop]
theorem mid_one (l : List UInt8) (k : Nat) (h : k < l.length) : mid l k (k + 1) = [l.getD k 0] := by
  rw [mid_succ l k k (Nat.le_refl _) h, mid_self]; rfl
theorem mid_two (l : List UInt8) (k : Nat) (h : k + 2 ≤ l.length) : mid l k (k + 2) = [l.getD k 0, l.getD (k + 1) 0] := by
  rw [mid_succ l k (k + 1) (by omega) (by omega), mid_one l k (by omega)]; rfl
theorem mid_head (p : UInt8 → Bool) (l : List UInt8) (k : Nat) (h : k < l.length) (hp : p (l.getD k 0) = true) : ∃ r, mid l k (upto p l k) = l.getD k 0 :: r := by
  rw [mid_upto, List.drop_eq_getElem_cons h, ← getD_at l k h, List.takeWhile_cons, if_pos hp]
  exact ⟨_, rfl⟩

theorem tok_word (l : List UInt8) (k : Nat) (hk : k < l.length) (hd : isDg (l.getD k 0) = false) (hl : isLe (l.getD k 0) = true) :
    tokAt l k = if upto isLe l k = k + 1 then some ((2, ((l.getD k 0).toNat : Int) - 97, (k : Int)), k + 1)
      else if wordK (mid l k (upto isLe l k)) = 0 then none else some (((wordK (mid l k (upto isLe l k)) : Int), 0, (k : Int)), upto isLe l k) := by
  unfold tokAt
  rw [if_neg (by rw [hd]; exact Bool.false_ne_true), if_pos hl]
  by_cases h : upto isLe l k = k + 1
  · rw [if_pos h, if_pos h]
  · rw [if_neg h, if_neg h]
    obtain ⟨r, hr⟩ := mid_head isLe l k hk hl
    unfold fixTok
    rw [fixed_word _ _ _ hr hl]
    split <;> rfl

def one (F : Option Nat) : Nat × Nat := match F with
  | some j => (j, 1)
  | none => (0, 0)
theorem one_ifs (x1 x2 x3 x4 x5 x6 x7 x8 : Bool) :
    (if x1 = true then (3, 1) else if x2 = true then (4, 1) else if x3 = true then (5, 1) else if x4 = true then (6, 1) else if x5 = true then (7, 1) else if x6 = true then (8, 1) else if x7 = true then (17, 1) else if x8 = true then (18, 1) else (0, 0))
      = one (if x1 = true then some 3 else if x2 = true then some 4 else if x3 = true then some 5 else if x4 = true then some 6 else if x5 = true then some 7 else if x6 = true then some 8 else if x7 = true then some 17 else if x8 = true then some 18 else none) := by
  cases x1
  · cases x2
    · cases x3
      · cases x4
        · cases x5
          · cases x6
            · cases x7
              · cases x8 <;> rfl
              · rfl
            · rfl
          · rfl
        · rfl
      · rfl
    · rfl
  · rfl
def signAll (two c x y z : Bool) (F : Option Nat) : Nat × Nat := if (two && (c && x)) = true then (9, 2) else if (two && (c && y)) = true then (10, 2) else if (two && (c && z)) = true then (11, 2) else one F
theorem sign_join (two c x y z : Bool) (F : Option Nat) (k : Nat) :
    (if two = true ∧ (if (c && x) = true then some 9 else if (c && y) = true then some 10 else if (c && z) = true then some 11 else none) ≠ none
      then (if (c && x) = true then some 9 else if (c && y) = true then some 10 else if (c && z) = true then some 11 else none).map fun j : Nat => ((((j : Int), 0, (k : Int)), k + 2) : Tk × Nat)
      else F.map fun j : Nat => ((((j : Int), 0, (k : Int)), k + 1) : Tk × Nat))
    = if (signAll two c x y z F).2 = 0 then none else some ((((signAll two c x y z F).1 : Int), 0, (k : Int)), k + (signAll two c x y z F).2) := by
  cases two <;> cases c <;> cases x <;> cases y <;> cases z <;> cases F <;> simp [one, signAll]
theorem sign_is (two : Bool) (b a : UInt8) : signI two (b.toNat : Int) (a.toNat : Int) = signAll two ((b.toNat : Int) == 61) ((a.toNat : Int) == 60) ((a.toNat : Int) == 61) ((a.toNat : Int) == 33) (fixedK [a]) := by
  rw [fixed_sign1]
  unfold signI signAll
  rw [one_ifs]
theorem tok_sign (l : List UInt8) (k : Nat) (hk : k < l.length) (hd : isDg (l.getD k 0) = false) (hl : isLe (l.getD k 0) = false) :
    tokAt l k = if (signK (l.drop k)).2 = 0 then none else some ((((signK (l.drop k)).1 : Int), 0, (k : Int)), k + (signK (l.drop k)).2) := by
  have hS : signK (l.drop k) = signI (decide (k + 2 ≤ l.length)) ((l.getD (k + 1) 0).toNat : Int) ((l.getD k 0).toNat : Int) := by
    unfold signK
    rw [getD_drop, getD_drop, List.length_drop]
    congr 1
    rw [Bool.eq_iff_iff, decide_eq_true_iff, decide_eq_true_iff]
    omega
  unfold tokAt
  rw [if_neg (by rw [hd]; exact Bool.false_ne_true), if_neg (by rw [hl]; exact Bool.false_ne_true), hS, sign_is]
  unfold fixTok
  rw [mid_one l k hk]
  by_cases h2 : k + 2 ≤ l.length
  · rw [mid_two l k h2, fixed_sign2 _ _ hl]
    have := sign_join (decide (k + 2 ≤ l.length)) (((l.getD (k + 1) 0).toNat : Int) == 61) (((l.getD k 0).toNat : Int) == 60) (((l.getD k 0).toNat : Int) == 61) (((l.getD k 0).toNat : Int) == 33) (fixedK [l.getD k 0]) k
    rw [← this]
    simp only [decide_eq_true_eq]
  · rw [if_neg (fun x => h2 x.1), decide_eq_false h2]
    cases fixedK [l.getD k 0] <;> simp [one, signAll]
theorem tok_num (l : List UInt8) (k : Nat) (hd : isDg (l.getD k 0) = true) :
    tokAt l k = if val (mid l k (upto isDg l k)) ≤ 9223372036854775807 then some ((1, (val (mid l k (upto isDg l k)) : Int), (k : Int)), upto isDg l k) else none := by
  unfold tokAt
  rw [if_pos hd]
end Go.Proofs.YtmiampdeniihmaaDoor
