/- What the program's package-level variables hold, and how that lasts; the contract of lex.fixedAt: the sign or word that is all of a piece of a text. -/
import Derived.Test.YtmbmijhfoncncaaGreatDoorZgen
namespace Go.Proofs.YtmbmijhfoncncaaGreatDoor
open Go.ChangeShapes Go.WideShapes Go.ChangeAt Go.RowKit
set_option linter.unusedVariables false

set_option maxHeartbeats 1000000 in
theorem fixedAt_any (s : ByteArray) (a b : Nat) (w : World) (hL : Laid w) (hab : a ≤ b) (hb : b ≤ s.size) (hs : s.size ≤ 1000000) :
    Calls Tryz.prog 70 #[.string s, .int .i64 a, .int .i64 b] w fun e w' => e = .returned (tokVal (fixTok s.data.toList a b)) ∧ Below w.heap.size w w' := by
  go_enter Tryz.func70, Tryz.ntmps70
  go_wp2
  go_loopw [9] (fun i wr => ∃ k n : Nat, 3 ≤ k ∧ k ≤ 19 ∧ i = .int .i64 k ∧ wr = ((w.alloc (.cells #[.int .i64 0, .int .i64 0, .int .i64 0] 101)).drewN n) ∧ Hid (fixedFrom (mid s.data.toList a b) (19 - k) k = fixedK (mid s.data.toList a b))) (fun i _ => 19 - (intOf i).toNat)
  case atStart => exact ⟨3, 0, by omega, by omega, rfl, rfl, Lib.hid rfl⟩
  case round =>
    obtain ⟨k, n, hk3, hk19, rfl, rfl, hU⟩ := hrel
    by_cases hlt : k ≤ 18
    · have hc : (w.alloc (.cells #[.int .i64 0, .int .i64 0, .int .i64 0] 101)).cell? ⟨1, k, none⟩ = some (.string (bytes (texts.getD k []))) := by
        rw [World.cell?_alloc_lt _ _ ⟨1, k, none⟩ (by have := hL.1; simp only; omega)]; exact hL.text k (by omega)
      by_cases heq : texts.getD k [] = mid s.data.toList a b
      · have H := Lib.hid ((hU.out.symm.trans (fixedFrom_here _ k hlt heq)))
        have ht : ((bytes (texts[k]?.getD [])).toList == (s.extract a b).toList) = true := by rw [same_bytes]; exact decide_eq_true (by simpa [List.getD] using heq)
        clear heq hU
        go_wp2
        go_quiet (fail)
        go_wp2
        refine bodyPost_ret (v := tokVal (fixTok s.data.toList a b)) ?_ rfl ⟨rfl, ?_⟩
        · unfold fixTok; rw [H.out]; simp [results, Tryz.results70, go_sem, tokVal]
        · (repeat (first | exact Below.refl _ _ | refine below_drewN ?_ _ | refine Below.setCell ?_ (by simp) _ | refine Below.alloc ?_ (by simp) _))
      · have H := Lib.hid ((fixedFrom_next _ k hlt heq).symm.trans hU.out)
        have ht : ((bytes (texts[k]?.getD [])).toList == (s.extract a b).toList) = false := by rw [same_bytes]; exact decide_eq_false (by simpa [List.getD] using heq)
        clear heq hU
        go_wp2
        go_quiet (fail)
        go_wp2
        go_roundw
        case rel => exact ⟨k + 1, _, by omega, by omega, by go_num, rfl, H⟩
        case measure => simp [intOf]; omega
    · obtain rfl : k = 19 := by omega
      have H := Lib.hid hU.out.symm
      clear hU
      go_wp2
      refine bodyPost_ret (v := tokVal (fixTok s.data.toList a b)) ?_ rfl ⟨rfl, ?_⟩
      · unfold fixTok; rw [H.out]; simp [results, Tryz.results70, go_sem, tokVal, fixedFrom]
      · (repeat (first | exact Below.refl _ _ | refine below_drewN ?_ _ | refine Below.setCell ?_ (by simp) _ | refine Below.alloc ?_ (by simp) _))
end Go.Proofs.YtmbmijhfoncncaaGreatDoor
