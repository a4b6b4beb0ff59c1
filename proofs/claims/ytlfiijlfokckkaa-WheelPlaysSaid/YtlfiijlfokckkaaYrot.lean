/- slices.rotateCmpFunc over timers. -/
import Derived.Test.YtlfiijlfokckkaaYswr
namespace Go.Proofs.Ytlfiijlfokckkaa
open Go.ChangeShapes Go.WideShapes Go.ChangeAt Go.RowKit Go.Sort Go.Lib
set_option linter.unusedVariables false

set_option maxHeartbeats 4000000 in
set_option maxRecDepth 1000000 in
theorem rotate_any (blk cap a m b : Nat) (d0 d : Array Tm) (w0 w : World) (cb : Value) (R : RowT w0 blk d0) (hs : d0.size = d.size) (S : SWT w0 blk d w) (ham : a < m) (hmb : m < b) (hb : b ≤ d.size) (hsz : d.size < 1000000) :
    Calls Try.prog 25 #[.slice (some ⟨blk, 0, none⟩) d.size cap, .int .i64 (a : Int), .int .i64 (m : Int), .int .i64 (b : Int), cb] w fun e w' => e = .returned (.tuple #[]) ∧ ∃ d' : Array Tm, d'.size = d.size ∧ SWT w0 blk d' w' ∧ fn d' = rotF (fn d) a m b := by
  have S0 : Aside (SWT w0 blk d w) := S
  have HC := Lib.hid (fun (x y n : Nat) (dk : Array Tm) (W : World) (h1 : dk.size = d.size) (h2 : SWT w0 blk dk W) (h3 : x + n ≤ y) (h4 : y + n ≤ d.size) => swapRange_any blk cap x y n d0 dk w0 W cb R (by omega) h2 h3 (by omega) (by omega))
  clear S
  obtain ⟨I, HI⟩ : ∃ I, Hid (I = m - a) := ⟨_, Lib.hid rfl⟩
  obtain ⟨J, HJ⟩ : ∃ J, Hid (J = b - m) := ⟨_, Lib.hid rfl⟩
  have w1 : IntKind.i64.wrap ((m : Int) - (a : Int)) = (I : Int) := by have := HI.out; rw [IntKind.wrap_i64]; omega
  have w2 : IntKind.i64.wrap ((b : Int) - (m : Int)) = (J : Int) := by have := HJ.out; rw [IntKind.wrap_i64]; omega
  go_enter Try.func25, Try.ntmps25
  go_wp2
  go_loopg [10, 11] (m + b) (fun kx s10 s11 wr => ∃ (i j : Nat) (dk : Array Tm), s10 = .int .i64 (i : Int) ∧ s11 = .int .i64 (j : Int) ∧ 0 < i ∧ 0 < j ∧ i ≤ m ∧ m + j ≤ d.size ∧ i + j ≤ kx ∧ dk.size = d.size ∧ Aside (SWT w0 blk dk wr) ∧ Hid (rotF (fn dk) (m - i) m (m + j) = rotF (fn d) a m b))
  case atStart =>
    have h1 := HI.out
    have h2 := HJ.out
    exact ⟨I, J, d, rfl, rfl, by omega, by omega, by omega, by omega, by omega, rfl, S0, Lib.hid (by rw [show m - I = a by omega, show m + J = b by omega])⟩
  case round =>
    clear S0 w1 w2 HI HJ
    obtain ⟨i, j, dk, rfl, rfl, hi, hj, him, hjs, hkx, hds, S1, HF⟩ := hrel
    obtain ⟨A, HA⟩ : ∃ A, Hid (A = m - i) := ⟨_, Lib.hid rfl⟩
    have w1 : IntKind.i64.wrap ((m : Int) - (i : Int)) = (A : Int) := by have := HA.out; rw [IntKind.wrap_i64]; omega
    rcases Nat.lt_trichotomy i j with hlt | heq | hgt
    · obtain ⟨C, HC1⟩ : ∃ C, Hid (C = m + j) := ⟨_, Lib.hid rfl⟩
      obtain ⟨E, HE⟩ : ∃ E, Hid (E = m + j - i) := ⟨_, Lib.hid rfl⟩
      obtain ⟨G, HG⟩ : ∃ G, Hid (G = j - i) := ⟨_, Lib.hid rfl⟩
      have hc := HC.out A E i dk wr hds S1.out (by have := HA.out; have := HE.out; omega) (by have := HE.out; omega)
      rw [hds] at hc
      have hne : ((i : Int) == (j : Int)) = false := beq_false_of_ne (by omega)
      have hng : ¬ (j : Int) < (i : Int) := by omega
      have w2 : IntKind.i64.wrap ((m : Int) + (j : Int)) = (C : Int) := by have := HC1.out; rw [IntKind.wrap_i64]; omega
      have w3 : IntKind.i64.wrap ((C : Int) - (i : Int)) = (E : Int) := by have := HC1.out; have := HE.out; rw [IntKind.wrap_i64]; omega
      have w4 : IntKind.i64.wrap ((j : Int) - (i : Int)) = (G : Int) := by have := HG.out; rw [IntKind.wrap_i64]; omega
      have HCC := Lib.hid hc
      clear hc S1
      go_wp2_with (first | (go_at_call 26; refine HCC.out.mono ?_; rintro e w5 ⟨rfl, d5, hd5, S5, hf5⟩) | fail)
      have HS5 := Lib.hid S5
      have HF5 := Lib.hid hf5
      clear S5 hf5
      go_wp2
      have hG := HG.out
      have hE := HE.out
      have hA := HA.out
      go_roundg (i + G)
      case measure => omega
      case rel => exact ⟨i, G, d5, rfl, rfl, hi, by omega, him, by omega, by omega, by omega, HS5.out, Lib.hid (by rw [HF5.out, hA, hE, hG, rot_small him hlt hi, HF.out])⟩
    · subst heq
      have hc := HC.out A m i dk wr hds S1.out (by have := HA.out; omega) (by omega)
      rw [hds] at hc
      have HCC := Lib.hid hc
      clear hc S1
      go_wp2_with (first | (go_at_call 26; refine HCC.out.mono ?_; rintro e w5 ⟨rfl, d5, hd5, S5, hf5⟩) | fail)
      go_end0
      have hA := HA.out
      exact ⟨rfl, d5, by omega, S5, by rw [hf5, hA, rot_same him, HF.out]⟩
    · have hc := HC.out A m j dk wr hds S1.out (by have := HA.out; omega) (by omega)
      obtain ⟨G, HG⟩ : ∃ G, Hid (G = i - j) := ⟨_, Lib.hid rfl⟩
      rw [hds] at hc
      have hne : ((i : Int) == (j : Int)) = false := beq_false_of_ne (by omega)
      have hng : (j : Int) < (i : Int) := by omega
      have w4 : IntKind.i64.wrap ((i : Int) - (j : Int)) = (G : Int) := by have := HG.out; rw [IntKind.wrap_i64]; omega
      have HCC := Lib.hid hc
      clear hc S1
      go_wp2_with (first | (go_at_call 26; refine HCC.out.mono ?_; rintro e w5 ⟨rfl, d5, hd5, S5, hf5⟩) | fail)
      have HS5 := Lib.hid S5
      have HF5 := Lib.hid hf5
      clear S5 hf5
      go_wp2
      have hG := HG.out
      have hA := HA.out
      go_roundg (G + j)
      case measure => omega
      case rel => exact ⟨G, j, d5, rfl, rfl, by omega, hj, by omega, hjs, by omega, by omega, HS5.out, Lib.hid (by rw [HF5.out, hA, hG, rot_big him hgt hj, HF.out])⟩
end Go.Proofs.Ytlfiijlfokckkaa
