/- The contracts of tree's bit, Below, and of the document's Has and Past: sets as bits. -/
import Derived.Test.YteepfpmeijnkbaaGreatDoorTtr
import Derived.Laws.BitsLemmas
namespace Go.Proofs.YteepfpmeijnkbaaGreatDoor
open Go.ChangeShapes Go.WideShapes Go.ChangeAt Go.RowKit
set_option linter.unusedVariables false

/-- the bits of those below n that P tells -/
def bset (P : Nat → Bool) : Nat → Nat
  | 0 => 0
  | n + 1 => bset P n + if P n = true then 2 ^ n else 0
theorem bset_lt (P : Nat → Bool) : ∀ n, bset P n < 2 ^ n
  | 0 => by simp [bset]
  | n + 1 => by
    have := bset_lt P n
    rw [bset, Nat.pow_succ]
    split <;> omega
theorem bset_or (P : Nat → Bool) (n : Nat) : bset P n ||| 2 ^ n = bset P n + 2 ^ n := by
  have := Nat.two_pow_add_eq_or_of_lt (bset_lt P n) 1
  rw [Nat.mul_one] at this
  rw [Nat.or_comm, ← this, Nat.add_comm]
theorem bset_bit (P : Nat → Bool) : ∀ (n k : Nat), k < n → bset P n / 2 ^ k % 2 = if P k = true then 1 else 0
  | 0, k, h => by omega
  | n + 1, k, h => by
    rw [bset]
    by_cases hk : k < n
    · have ih := bset_bit P n k hk
      split
      · rw [show 2 ^ n = 2 ^ k * (2 * 2 ^ (n - k - 1)) by rw [← Nat.pow_succ', ← Nat.pow_add]; congr 1; omega, Nat.add_mul_div_left _ _ (Nat.pow_pos (by decide)), Nat.add_mul_mod_self_left]
        exact ih
      · rw [Nat.add_zero]
        exact ih
    · obtain rfl : k = n := by omega
      have hlt := bset_lt P k
      split
      · rw [Nat.add_div_right _ (Nat.pow_pos (by decide)), Nat.div_eq_of_lt hlt]
      · rw [Nat.add_zero, Nat.div_eq_of_lt hlt]
theorem bit_any (k : Nat) (hk : k ≤ 31) (w : World) : Calls Tryz.prog 25 #[.int .i64 (k : Int)] w fun e w' => e = .returned (.int .u32 ((2 ^ k : Nat) : Int)) ∧ w = w' := by
  have h0 : decide ((k : Int) < 0) = false := by simp
  go_enter Tryz.func25, Tryz.ntmps25
  go_wp2_with fail
  go_ret
  refine ⟨ret_int ?_, rfl⟩
  have h1 : (2 : Nat) ^ k ≤ 2 ^ 31 := Nat.pow_le_pow_right (by decide) hk
  have h2 : ((2 : Int) ^ k) = ((2 ^ k : Nat) : Int) := by simp
  rw [show (2 : Nat) ^ 31 = 2147483648 by decide] at h1
  rw [h2]
  generalize 2 ^ k = m at *
  omega
/-- what is below a state -/
def belowP (S : List St) (s : Int) (k : Nat) : Bool := cIn S (k : Int) s && !histB (stAt S (k : Int)).kind
def belowN (S : List St) (s : Int) : Nat := bset (belowP S s) S.length
theorem wrap_u32 (n : Int) (h0 : 0 ≤ n) (h1 : n < 2 ^ 32) : IntKind.u32.wrap n = n := by
  simp [IntKind.wrap, IntKind.bits, IntKind.signed] at h1 ⊢
  omega
theorem or_step (P : Nat → Bool) (k : Nat) (hk : k ≤ 31) (hP : P k = true) : bits .or .u32 ((bset P k : Nat) : Int) ((2 : Int) ^ k) = ((bset P (k + 1) : Nat) : Int) := by
  have h1 : 2 ^ k < 2 ^ 32 := Nat.pow_lt_pow_right (by decide) (by omega)
  have h2 : ((2 : Int) ^ k) = ((2 ^ k : Nat) : Int) := by simp
  rw [h2, (bits_nat .u32 32 (by decide) wrap_u32 _ _ (Nat.lt_trans (bset_lt P k) h1) h1).2, bset_or, bset, hP]
  rfl
set_option maxHeartbeats 1000000 in
theorem below_any (g : Nat) (s : Int) (C : Ch) (w : World) (hT : TreeAt w g C) (hl : C.sts.length ≤ 31) (hR : Rooted C.sts) :
    Calls Tryz.prog 13 #[.pointer (some ⟨g, 0, none⟩), .int .i64 s] w fun e w' => e = .returned (.int .u32 ((belowN C.sts s : Nat) : Int)) ∧ w = w' := by
  have HI := Lib.hid (fun (a : Int) => inT_any g a s C w hT (by omega) hR)
  have HH := Lib.hid (fun (a : Int) => isHistT_any g a C w hT (by omega))
  obtain ⟨vs, vt, hX, hC⟩ := hT
  obtain ⟨A, cap, rfl, hcap⟩ := RowsAt.slice hC.1
  obtain ⟨⟨x0, x1, x2⟩, -⟩ := hX.facts3
  clear hX hC
  go_enter Tryz.func13, Tryz.ntmps13
  go_wp2_with fail
  go_loopw [5, 13] (fun v i wr => ∃ k : Nat, k ≤ C.sts.length ∧ i = .int .i64 (k : Int) ∧ v = .int .u32 ((bset (belowP C.sts s) k : Nat) : Int) ∧ wr = w) (fun _ i _ => C.sts.length - (intOf i).toNat)
  case atStart => exact ⟨0, Nat.zero_le _, rfl, rfl, rfl⟩
  case round =>
    obtain ⟨k, hk, rfl, rfl, rfl⟩ := hrel
    by_cases hlt : k < C.sts.length
    · have hP : belowP C.sts s k = (cIn C.sts (k : Int) s && !histB (kindT C.sts (k : Int))) := by unfold belowP kindT; rw [if_pos (isSt_of hlt)]
      have hb0 := bset_lt (belowP C.sts s) k
      have hor := or_step (belowP C.sts s) k (by omega)
      have hno : belowP C.sts s k = false → bset (belowP C.sts s) (k + 1) = bset (belowP C.sts s) k := fun h => by rw [bset, h]; simp
      have hB' : ∃ B', bset (belowP C.sts s) (k + 1) = B' := ⟨_, rfl⟩
      obtain ⟨B', hB'⟩ := hB'
      rw [hB'] at hor hno
      have HB' := Lib.hid hB'
      clear hB'
      generalize bset (belowP C.sts s) k = B at *
      generalize belowP C.sts s k = P at *
      have HP := Lib.hid hP
      have HOR := Lib.hid hor
      have HNO := Lib.hid hno
      clear hP hor hno
      cases hi : cIn C.sts (k : Int) s with
      | false =>
        have HII := Lib.hid hi
        clear hi
        go_wp2_with fail
        refine (HI.out _).mono ?_
        rintro e w1 ⟨rfl, rfl⟩
        rw [HII.out]
        go_wp2_with fail
        go_roundw
        case rel => exact ⟨k + 1, by omega, by go_num, by rw [HB'.out, HNO.out (by rw [HP.out, HII.out]; rfl)], trivial⟩
        case measure => simp [intOf]; omega
      | true =>
        cases hh : histB (kindT C.sts (k : Int)) with
        | true =>
          have HII := Lib.hid hi
          have HHH := Lib.hid hh
          clear hi hh
          go_wp2_with fail
          refine (HI.out _).mono ?_
          rintro e w1 ⟨rfl, rfl⟩
          rw [HII.out]
          go_wp2_with fail
          refine (HH.out _).mono ?_
          rintro e w1 ⟨rfl, rfl⟩
          rw [HHH.out]
          go_wp2_with fail
          go_roundw
          case rel => exact ⟨k + 1, by omega, by go_num, by rw [HB'.out, HNO.out (by rw [HP.out, HII.out, HHH.out]; rfl)], trivial⟩
          case measure => simp [intOf]; omega
        | false =>
          have HII := Lib.hid hi
          have HHH := Lib.hid hh
          clear hi hh
          go_wp2_with fail
          refine (HI.out _).mono ?_
          rintro e w1 ⟨rfl, rfl⟩
          rw [HII.out]
          go_wp2_with fail
          refine (HH.out _).mono ?_
          rintro e w1 ⟨rfl, rfl⟩
          rw [HHH.out]
          go_wp2_with fail
          refine (bit_any k (by omega) _).mono ?_
          rintro e w1 ⟨rfl, rfl⟩
          go_wp2_with fail
          go_roundw
          case rel => exact ⟨k + 1, by omega, by go_num, by rw [HB'.out, ← HOR.out (by rw [HP.out, HII.out, HHH.out]; rfl)], trivial⟩
          case measure => simp [intOf]; omega
    · obtain rfl : k = C.sts.length := by omega
      go_wp2_with fail
      go_ret
      exact ⟨rfl, rfl⟩
end Go.Proofs.YteepfpmeijnkbaaGreatDoor
