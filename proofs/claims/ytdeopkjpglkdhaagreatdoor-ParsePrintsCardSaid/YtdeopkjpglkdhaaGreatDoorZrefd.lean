/- Contracts of the document's answers for a number's digits and for a sign's text (spinetref02.Digits, Sign). -/
import Derived.Test.YtdeopkjpglkdhaaGreatDoorZgen
namespace Go.Proofs.YtdeopkjpglkdhaaGreatDoor
open Go.ChangeShapes Go.WideShapes Go.ChangeAt Go.RowKit
set_option linter.unusedVariables false

/-- one byte in a new slice, made into a string -/
theorem one_byte (w : World) (n : Int) (h0 : 0 ≤ n) (h1 : n ≤ 255) :
    (convert 79 9 (.slice (some ⟨w.heap.size, 0, none⟩) 1 1)).run Tryz.prog (w.alloc (.cells #[.int .u8 n] 5)) = .ok (.string (bytes [UInt8.ofNat n.toNat])) (w.alloc (.cells #[.int .u8 n] 5)) := by
  have hB := Blk.new w 5 #[.int .u8 n]
  exact run_convert_bytes_back (P := Tryz.prog) (w.alloc (.cells #[.int .u8 n] 5)) 79 9 5 ⟨w.heap.size, 0, none⟩ 1 [UInt8.ofNat n.toNat] Tryz.underlying79 Tryz.underlying5 Tryz.underlying9 (fun j hj => by
    obtain rfl : j = 0 := by simpa using hj
    have hc : (w.alloc (.cells #[.int .u8 n] 5)).cell? ⟨w.heap.size, 0, none⟩ = some (.int .u8 n) := hB.cell 0
    have hn : ((UInt8.ofNat n.toNat).toNat : Int) = n := by rw [UInt8.toNat_ofNat', Nat.mod_eq_of_lt (by omega)]; omega
    show (w.alloc (.cells #[.int .u8 n] 5)).cell? ⟨w.heap.size, 0, none⟩ = some (.int .u8 ((UInt8.ofNat n.toNat).toNat : Int))
    rw [hc, hn])
set_option maxHeartbeats 1000000 in
set_option maxRecDepth 100000 in
theorem digits_low (n : Nat) (w : World) (h : n < 10) :
    Calls Tryz.prog 39 #[.int .i64 (n : Int)] w fun e w' => e = .returned (.string (bytes (Lib.decDigits n))) ∧ Below w.heap.size w w' := by
  have hcv := one_byte w (48 + (n : Int) % 10) (by omega) (by omega)
  have hlt : (n : Int) < 10 := by omega
  rw [dig_low n h]
  go_enter Tryz.func39, Tryz.ntmps39
  go_wp2_with fail
  go_ret
  exact ⟨rfl, (Below.refl _ _).alloc (Nat.le_refl _) _⟩
set_option maxHeartbeats 1000000 in
set_option maxRecDepth 100000 in
theorem digits_high (n : Nat) (w : World) (h : ¬ n < 10) (hn : n ≤ 9223372036854775807)
    (ih : ∀ W : World, Calls Tryz.prog 39 #[.int .i64 ((n / 10 : Nat) : Int)] W fun e w' => e = .returned (.string (bytes (Lib.decDigits (n / 10)))) ∧ Below W.heap.size W w') :
    Calls Tryz.prog 39 #[.int .i64 (n : Int)] w fun e w' => e = .returned (.string (bytes (Lib.decDigits n))) ∧ Below w.heap.size w w' := by
  have hcv := one_byte w (48 + (n : Int) % 10) (by omega) (by omega)
  have hge : 10 ≤ (n : Int) := by omega
  have HD := Lib.hid (show bytes (Lib.decDigits n) = bytes (Lib.decDigits (n / 10)) ++ bytes [UInt8.ofNat (48 + (n : Int) % 10).toNat] by rw [dig_high n h, bytes_append])
  have hy : (bytes (Lib.decDigits (n / 10))).size ≤ 20 := by
    rw [bytes_size, decDigits_len]
    exact nDigits_le 19 _ (by have : n / 10 < 10000000000000000000 := by omega
                              exact Nat.lt_trans this (by decide))
  have hx : (bytes [UInt8.ofNat (48 + (n : Int) % 10).toNat]).size ≤ 1 := by rw [bytes_size]; simp
  generalize bytes [UInt8.ofNat (48 + (n : Int) % 10).toNat] = X at hcv HD hx
  generalize bytes (Lib.decDigits (n / 10)) = Y at ih HD hy
  have HI := Lib.hid ih
  clear ih h
  go_enter Tryz.func39, Tryz.ntmps39
  go_wp2_with fail
  rw [show ((n : Int) / 10) = ((n / 10 : Nat) : Int) from by omega]
  refine (HI.out _).mono ?_
  rintro e w1 ⟨rfl, hb⟩
  go_wp2
  go_ret
  refine ⟨?_, ((Below.refl _ _).alloc (Nat.le_refl _) _).trans (hb.mono (by simp))⟩
  rw [HD.out]
  rfl
theorem digits_any (n : Nat) : ∀ w : World, n ≤ 9223372036854775807 →
    Calls Tryz.prog 39 #[.int .i64 (n : Int)] w fun e w' => e = .returned (.string (bytes (Lib.decDigits n))) ∧ Below w.heap.size w w' := by
  induction n using Nat.strongRecOn with
  | _ n ih =>
    intro w hn
    by_cases h : n < 10
    · exact digits_low n w h
    · exact digits_high n w h hn (fun W => ih (n / 10) (by omega) W (by omega))
set_option maxHeartbeats 1000000 in
theorem signs_any (k : Int) (w : World) : Calls Tryz.prog 25 #[.int .i64 k] w fun e w' => e = .returned (.string (bytes (signT k))) ∧ w = w' := by
  by_cases h : 3 ≤ k ∧ k ≤ 18
  · have : k = 3 ∨ k = 4 ∨ k = 5 ∨ k = 6 ∨ k = 7 ∨ k = 8 ∨ k = 9 ∨ k = 10 ∨ k = 11 ∨ k = 12 ∨ k = 13 ∨ k = 14 ∨ k = 15 ∨ k = 16 ∨ k = 17 ∨ k = 18 := by omega
    rcases this with rfl | rfl | rfl | rfl | rfl | rfl | rfl | rfl | rfl | rfl | rfl | rfl | rfl | rfl | rfl | rfl
    all_goals
      go_enter Tryz.func25, Tryz.ntmps25
      go_wp2
      go_ret
      exact ⟨rfl, rfl⟩
  · have e : signT k = [] := by unfold signT; rw [if_neg h]
    rw [e]
    have n3 : (k == 3) = false := by simp; omega
    have n4 : (k == 4) = false := by simp; omega
    have n5 : (k == 5) = false := by simp; omega
    have n6 : (k == 6) = false := by simp; omega
    have n7 : (k == 7) = false := by simp; omega
    have n8 : (k == 8) = false := by simp; omega
    have n9 : (k == 9) = false := by simp; omega
    have n10 : (k == 10) = false := by simp; omega
    have n11 : (k == 11) = false := by simp; omega
    have n12 : (k == 12) = false := by simp; omega
    have n13 : (k == 13) = false := by simp; omega
    have n14 : (k == 14) = false := by simp; omega
    have n15 : (k == 15) = false := by simp; omega
    have n16 : (k == 16) = false := by simp; omega
    have n17 : (k == 17) = false := by simp; omega
    have n18 : (k == 18) = false := by simp; omega
    clear h e
    go_enter Tryz.func25, Tryz.ntmps25
    go_wp2
    go_ret
    exact ⟨rfl, rfl⟩
end Go.Proofs.YtdeopkjpglkdhaaGreatDoor
