/- What the program's package-level variables hold, and how that lasts; the contract of lex.fixedAt: the sign or word that is all of a piece of a text. -/
import Derived.Test.YtmiampdeniihmaaDoorScan
import Derived.Test.YtmiampdeniihmaaDoorShelf
import Derived.Below
import Derived.WalkSmall
import Derived.Lib.LaidTab
import Derived.Deep.QuietTactic
import Derived.BigQuiet
import Derived.WalkSpells
import Derived.Outline
namespace Go.Proofs.YtmiampdeniihmaaDoor
open Go.ChangeShapes Go.WideShapes Go.ChangeAt Go.RowKit
set_option linter.unusedVariables false

def bytes (l : List UInt8) : ByteArray := ⟨l.toArray⟩
def textVals : List Value := texts.map fun l => .string (bytes l)
/-- what the package-level variables hold that the calls read -/
def Laid (w : World) : Prop :=
  8 ≤ w.heap.size ∧ w.var? Tryd.prog "spinet/lex.texts" = some textVals.toArray ∧ w.var? Tryd.prog "errors.errorType" = some #[.iface 89 (.agg #[.pointer (some ⟨8, 25, none⟩)])]
    ∧ (∃ tp p, w.var? Tryd.prog "strconv.ErrRange" = some #[.iface tp p]) ∧ Lib.TabIs Tryd.prog w "internal/strconv.uint64pow10" .u64 Lib.pow10Tab
theorem g0 : Tryd.prog.globalNamed "errors.errorType" = some 0 := by kernel_rfl
theorem g1 : Tryd.prog.globalNamed "spinet/lex.texts" = some 1 := by kernel_rfl
theorem g2 : Tryd.prog.globalNamed "internal/strconv.uint64pow10" = some 2 := by kernel_rfl
theorem g5 : Tryd.prog.globalNamed "strconv.ErrRange" = some 5 := by kernel_rfl
theorem Laid.below {B : Nat} {w w' : World} (h : Laid w) (hb : Below B w w') (hB : 8 ≤ B) : Laid w' := by
  obtain ⟨h0, h1, h2, ⟨tp, p, h3⟩, h4⟩ := h
  refine ⟨Nat.le_trans h0 hb.size, var?_below hb g1 (by omega) h1, var?_below hb g0 (by omega) h2, ⟨tp, p, var?_below hb g5 (by omega) h3⟩, ?_⟩
  unfold Lib.TabIs at h4 ⊢
  exact var?_below hb g2 (by omega) h4
theorem Laid.after {w w' : World} (h : Laid w) (hb : Below w.heap.size w w') : Laid w' := h.below hb h.1
theorem Laid.text {w : World} (h : Laid w) (k : Nat) (hk : k < 19) : w.cell? ⟨1, k, none⟩ = some (.string (bytes (texts.getD k []))) := by
  rw [World.var?_cell g1 h.2.1 k]
  have : k < textVals.length := hk
  simp [textVals, List.getD, List.getElem?_eq_getElem (show k < texts.length from hk)]

def zeroTok : Value := .agg #[.int .i64 0, .int .i64 0, .int .i64 0]
/-- a token, where it ends, and true; or zero values and false -/
def tokVal : Option (Tk × Nat) → Value
  | none => .tuple #[.agg #[.int .i64 0, .int .i64 0, .int .i64 0], .int .i64 0, .bool false]
  | some (t, e) => .tuple #[.agg #[.int .i64 t.1, .int .i64 t.2.1, .int .i64 t.2.2], .int .i64 e, .bool true]
theorem same_bytes (l : List UInt8) (s : ByteArray) (a b : Nat) : ((bytes l).toList == (s.extract a b).toList) = decide (l = mid s.data.toList a b) := by
  rw [Lib.toList_data, Lib.extract_toList, Bool.eq_iff_iff, beq_iff_eq]
  exact (decide_eq_true_iff (p := l = mid s.data.toList a b)).symm
theorem below_drewN {B : Nat} {a w : World} (h : Below B a w) (n : Nat) : Below B a (w.drewN n) := ⟨h.os, h.tape, h.output, h.size, h.block⟩

set_option maxHeartbeats 1000000 in
theorem fixedAt_any (s : ByteArray) (a b : Nat) (w : World) (hL : Laid w) (hab : a ≤ b) (hb : b ≤ s.size) (hs : s.size ≤ 1000000) :
    Calls Tryd.prog 41 #[.string s, .int .i64 a, .int .i64 b] w fun e w' => e = .returned (tokVal (fixTok s.data.toList a b)) ∧ Below w.heap.size w w' := by
  go_enter Tryd.func41, Tryd.ntmps41
  go_wp2
  go_loopw [9] (fun i wr => ∃ k n : Nat, 3 ≤ k ∧ k ≤ 19 ∧ i = .int .i64 k ∧ wr = ((w.alloc (.cells #[.int .i64 0, .int .i64 0, .int .i64 0] 40)).drewN n) ∧ Hid (fixedFrom (mid s.data.toList a b) (19 - k) k = fixedK (mid s.data.toList a b))) (fun i _ => 19 - (intOf i).toNat)
  case atStart => exact ⟨3, 0, by omega, by omega, rfl, rfl, Lib.hid rfl⟩
  case round =>
    obtain ⟨k, n, hk3, hk19, rfl, rfl, hU⟩ := hrel
    by_cases hlt : k ≤ 18
    · have hc : (w.alloc (.cells #[.int .i64 0, .int .i64 0, .int .i64 0] 40)).cell? ⟨1, k, none⟩ = some (.string (bytes (texts.getD k []))) := by
        rw [World.cell?_alloc_lt _ _ ⟨1, k, none⟩ (by have := hL.1; simp only; omega)]; exact hL.text k (by omega)
      by_cases heq : texts.getD k [] = mid s.data.toList a b
      · have H := Lib.hid ((hU.out.symm.trans (fixedFrom_here _ k hlt heq)))
        have ht : ((bytes (texts[k]?.getD [])).toList == (s.extract a b).toList) = true := by rw [same_bytes]; exact decide_eq_true (by simpa [List.getD] using heq)
        clear heq hU
        go_wp2
        go_quiet (fail)
        go_wp2
        refine bodyPost_ret (v := tokVal (fixTok s.data.toList a b)) ?_ rfl ⟨rfl, ?_⟩
        · unfold fixTok; rw [H.out]; simp [results, Tryd.results41, go_sem, tokVal]
        · (repeat (first | exact Below.refl _ _ | refine below_drewN ?_ _ | refine Below.setCell ?_ (by simp) _ | refine Below.alloc ?_ (by simp) _))
      · have H := Lib.hid ((fixedFrom_next _ k hlt heq).symm.trans hU.out)
        have ht : ((bytes (texts[k]?.getD [])).toList == (s.extract a b).toList) = false := by rw [same_bytes]; exact decide_eq_false (by simpa [List.getD] using heq)
        clear heq hU
        go_wp2
        go_quiet (fail)
        go_wp2
        go_roundw
        case rel => exact ⟨k + 1, _, by omega, by omega, by go_num, rfl, H⟩
        case measure => simp [intOf]; omega
    · obtain rfl : k = 19 := by omega
      have H := Lib.hid hU.out.symm
      clear hU
      go_wp2
      refine bodyPost_ret (v := tokVal (fixTok s.data.toList a b)) ?_ rfl ⟨rfl, ?_⟩
      · unfold fixTok; rw [H.out]; simp [results, Tryd.results41, go_sem, tokVal, fixedFrom]
      · (repeat (first | exact Below.refl _ _ | refine below_drewN ?_ _ | refine Below.setCell ?_ (by simp) _ | refine Below.alloc ?_ (by simp) _))
end Go.Proofs.YtmiampdeniihmaaDoor
