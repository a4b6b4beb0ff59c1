/- Contracts of the document's answers for words and signs, and that they are those of the plain scan. -/
import Derived.Test.YtmiampdeniihmaaDoorToks
namespace Go.Proofs.YtmiampdeniihmaaDoor
open Go.ChangeShapes Go.WideShapes Go.ChangeAt Go.RowKit
set_option linter.unusedVariables false

def wordK (w : List UInt8) : Nat := if (w == [116, 114, 117, 101]) = true then 15 else if (w == [102, 97, 108, 115, 101]) = true then 16 else if (w == [97, 110, 100]) = true then 12 else if (w == [111, 114]) = true then 13 else if (w == [110, 111, 116]) = true then 14 else 0
def signI (two : Bool) (b a : Int) : Nat × Nat :=
  if (two && ((b == 61) && (a == 60))) = true then (9, 2) else if (two && ((b == 61) && (a == 61))) = true then (10, 2) else if (two && ((b == 61) && (a == 33))) = true then (11, 2)
  else if (a == 43) = true then (3, 1) else if (a == 45) = true then (4, 1) else if (a == 42) = true then (5, 1) else if (a == 47) = true then (6, 1) else if (a == 37) = true then (7, 1)
  else if (a == 60) = true then (8, 1) else if (a == 40) = true then (17, 1) else if (a == 41) = true then (18, 1) else (0, 0)
def signK (l : List UInt8) : Nat × Nat := signI (decide (1 < l.length)) ((l.getD 1 0).toNat : Int) ((l.getD 0 0).toNat : Int)

set_option maxHeartbeats 1000000 in
theorem word_any (s : ByteArray) (w : World) :
    Calls Tryd.prog 16 #[.string s] w fun e w' => e = .returned (.int .i64 (wordK s.data.toList : Nat)) ∧ w = w' := by
  rw [← Lib.toList_data]
  go_enter Tryd.func16, Tryd.ntmps16
  go_wp2
  all_goals
    go_ret
    refine ⟨ret_int ?_, rfl⟩
    simp only [wordK, *, ↓reduceIte, Bool.false_eq_true]
    rfl

theorem ret_two {a b c d : Int} (h1 : a = c) (h2 : b = d) : Ending.returned (.tuple #[.int .i64 a, .int .i64 b]) = .returned (.tuple #[.int .i64 c, .int .i64 d]) := by rw [h1, h2]
set_option maxHeartbeats 1000000 in
theorem sign_any (s : ByteArray) (w : World) (h0 : 0 < s.size) (hs : s.size ≤ 1000000) :
    Calls Tryd.prog 17 #[.string s] w fun e w' => e = .returned (.tuple #[.int .i64 ((signK s.data.toList).1 : Nat), .int .i64 ((signK s.data.toList).2 : Nat)]) ∧ w = w' := by
  have hz := Lib.size_eq s
  by_cases h1 : 1 < s.size
  · have hS : signK s.data.toList = signI true (s[1].toNat : Int) (s[0].toNat : Int) := by
      rw [signK, at_getD s 1 h1, at_getD s 0 h0, ← hz, decide_eq_true h1]
    rw [hS]
    clear hS hz
    go_enter Tryd.func17, Tryd.ntmps17
    go_wp2
    all_goals
      go_ret2
      refine ⟨ret_two ?_ ?_, rfl⟩ <;> simp [signI, *]
  · have hS : signK s.data.toList = signI false 0 (s[0].toNat : Int) := by
      rw [signK, at_getD s 0 h0, ← hz, decide_eq_false h1]; rfl
    rw [hS]
    clear hS hz
    go_enter Tryd.func17, Tryd.ntmps17
    go_wp2
    all_goals
      go_ret2
      refine ⟨ret_two ?_ ?_, rfl⟩ <;> simp [signI, *]

/-! ### Their Kinds are those of the table -/
theorem letter_ne {w : List UInt8} {c : UInt8} {r : List UInt8} (hw : w = c :: r) (hc : isLe c = true) (d : UInt8) (q : List UInt8) (hd : isLe d = false) : ¬ d :: q = w := by
  rintro rfl
  obtain ⟨rfl, rfl⟩ := List.cons.inj hw
  rw [hc] at hd; cases hd
theorem fixed_word (w : List UInt8) (c : UInt8) (r : List UInt8) (hw : w = c :: r) (hc : isLe c = true) : fixedK w = if wordK w = 0 then none else some (wordK w) := by
  by_cases h0 : [97, 110, 100] = w
  · rw [← h0]; decide
  by_cases h1 : [111, 114] = w
  · rw [← h1]; decide
  by_cases h2 : [110, 111, 116] = w
  · rw [← h2]; decide
  by_cases h3 : [116, 114, 117, 101] = w
  · rw [← h3]; decide
  by_cases h4 : [102, 97, 108, 115, 101] = w
  · rw [← h4]; decide
  have e0 := letter_ne hw hc 43 [] (by decide)
  have e1 := letter_ne hw hc 45 [] (by decide)
  have e2 := letter_ne hw hc 42 [] (by decide)
  have e3 := letter_ne hw hc 47 [] (by decide)
  have e4 := letter_ne hw hc 37 [] (by decide)
  have e5 := letter_ne hw hc 60 [] (by decide)
  have e6 := letter_ne hw hc 60 [61] (by decide)
  have e7 := letter_ne hw hc 61 [61] (by decide)
  have e8 := letter_ne hw hc 33 [61] (by decide)
  have e9 := letter_ne hw hc 40 [] (by decide)
  have e10 := letter_ne hw hc 41 [] (by decide)
  have k0 : (w == [97, 110, 100]) = false := by simpa using fun h => h0 h.symm
  have k1 : (w == [111, 114]) = false := by simpa using fun h => h1 h.symm
  have k2 : (w == [110, 111, 116]) = false := by simpa using fun h => h2 h.symm
  have k3 : (w == [116, 114, 117, 101]) = false := by simpa using fun h => h3 h.symm
  have k4 : (w == [102, 97, 108, 115, 101]) = false := by simpa using fun h => h4 h.symm
  have hn : fixedK w = none := by
    simp only [fixedK, fixedFrom, texts, List.getD_cons_succ, List.getD_cons_zero, h0, h1, h2, h3, h4, e0, e1, e2, e3, e4, e5, e6, e7, e8, e9, e10, ↓reduceIte, Nat.reduceAdd]
  rw [hn]
  simp only [wordK, k0, k1, k2, k3, k4, Bool.false_eq_true, ↓reduceIte]

theorem u8eq (b c : UInt8) (n : Int) (h : n = c.toNat) : ((b.toNat : Int) == n) = decide (c = b) := by
  subst h
  rw [Bool.eq_iff_iff, beq_iff_eq, decide_eq_true_iff]
  constructor
  · intro h; exact (UInt8.toNat_inj.1 (by omega)).symm
  · rintro rfl; rfl
/-- two bytes of a sign -/
theorem fixed_sign2 (a b : UInt8) (ha : isLe a = false) : fixedK [a, b] = if ((b.toNat : Int) == 61 && ((a.toNat : Int) == 60)) = true then some 9 else if ((b.toNat : Int) == 61 && ((a.toNat : Int) == 61)) = true then some 10 else if ((b.toNat : Int) == 61 && ((a.toNat : Int) == 33)) = true then some 11 else none := by
  rw [u8eq b 61 61 rfl, u8eq a 60 60 rfl, u8eq a 61 61 rfl, u8eq a 33 33 rfl]
  have h : ¬ (111 = a) := by rintro rfl; revert ha; decide
  simp only [fixedK, fixedFrom, texts, List.getD_cons_succ, List.getD_cons_zero, List.cons.injEq, reduceCtorEq, and_false, and_true, h, false_and, ↓reduceIte, Nat.reduceAdd, Bool.and_eq_true, decide_eq_true_eq]
  simp only [and_comm]
theorem fixed_sign1 (a : UInt8) : fixedK [a] = if ((a.toNat : Int) == 43) = true then some 3 else if ((a.toNat : Int) == 45) = true then some 4 else if ((a.toNat : Int) == 42) = true then some 5 else if ((a.toNat : Int) == 47) = true then some 6 else if ((a.toNat : Int) == 37) = true then some 7
  else if ((a.toNat : Int) == 60) = true then some 8 else if ((a.toNat : Int) == 40) = true then some 17 else if ((a.toNat : Int) == 41) = true then some 18 else none := by
  have h : ∀ n : Fin 256, fixedK [UInt8.ofNat n.val] = if (((UInt8.ofNat n.val).toNat : Int) == 43) = true then some 3 else if (((UInt8.ofNat n.val).toNat : Int) == 45) = true then some 4 else if (((UInt8.ofNat n.val).toNat : Int) == 42) = true then some 5 else if (((UInt8.ofNat n.val).toNat : Int) == 47) = true then some 6 else if (((UInt8.ofNat n.val).toNat : Int) == 37) = true then some 7
      else if (((UInt8.ofNat n.val).toNat : Int) == 60) = true then some 8 else if (((UInt8.ofNat n.val).toNat : Int) == 40) = true then some 17 else if (((UInt8.ofNat n.val).toNat : Int) == 41) = true then some 18 else none := by decide +kernel
  have := h ⟨a.toNat, a.toNat_lt⟩
  simpa using this
end Go.Proofs.YtmiampdeniihmaaDoor
