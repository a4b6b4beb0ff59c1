/- The contracts of the document's own answers for layer 5: Kids, Ints, In. -/
import Derived.Test.YtafcbgapllkghaaGreatDoorCgen
import Derived.Test.YtafcbgapllkghaaGreatDoorEstepl
namespace Go.Proofs.YtafcbgapllkghaaGreatDoor
open Go.ChangeShapes Go.WideShapes Go.ChangeAt Go.RowKit
set_option linter.unusedVariables false

theorem histB_no {K : Int} (h5 : ¬ K = 5) (h6 : ¬ K = 6) : histB K = false := by simp [histB, h5, h6]
theorem list_of_own {w : World} {B : Nat} {v : Value} {L : List Int} (h : w.ownsRow B 3 1 v L.length (intVals L)) : ListAt w v L := by
  have h' := h
  rcases h.2 with ⟨h1, h0⟩ | ⟨g, cap, cur, rfl, hge, hgt, hcap, _⟩
  · obtain rfl : L = [] := List.eq_nil_of_length_eq_zero h0
    rw [h1]
    exact RowsAt.nil w
  · refine ⟨_, cap, rfl, hcap, fun i x hx => ⟨g, 0, rfl, (h'.lt g rfl).2, ?_⟩⟩
    show w.cell? ⟨g, 0 + i * 1, none⟩ = _
    rw [Nat.zero_add, Nat.mul_one]
    exact own_cell h' i _ (by simp [intVals, hx])
set_option maxHeartbeats 1000000 in
/-- Ints at the same numbers -/
theorem ints_same (v u : Value) (L : List Int) (w : World) (hv : ListAt w v L) (hu : ListAt w u L) (hl : L.length ≤ 1000) :
    Calls Tryz.prog 10 #[v, u] w fun e w' => e = .returned (.bool true) ∧ Below w.heap.size w w' := by
  obtain ⟨A, cap, rfl, hcap, he⟩ := hv
  obtain ⟨A', cap', rfl, hcap', he'⟩ := hu
  have HE := Lib.hid he
  have HE' := Lib.hid he'
  clear he he'
  go_enter Tryz.func10, Tryz.ntmps10
  go_wp2_with fail
  go_loopw [5] (fun i wr => ∃ k : Nat, k ≤ L.length ∧ i = .int .i64 (k : Int) ∧ Below w.heap.size w wr) (fun i _ => L.length - (intOf i).toNat)
  case atStart => exact ⟨0, Nat.zero_le _, rfl, Below.refl _ _⟩
  case round =>
    obtain ⟨k, hk, rfl, hb⟩ := hrel
    obtain ⟨wo, rfl⟩ : ∃ wo : World, wo = wr := ⟨_, rfl⟩
    by_cases hlt : k < L.length
    · obtain ⟨b, o, rfl, hbl, hc⟩ := HE.out k _ (List.getElem?_eq_getElem hlt)
      obtain ⟨b', o', rfl, hbl', hc'⟩ := HE'.out k _ (List.getElem?_eq_getElem hlt)
      have c0 : wo.cell? ⟨b, o + k, none⟩ = some (.int .i64 L[k]) := by have := IntAt.keeps w wo b _ _ hb hbl hc; rwa [Nat.mul_one] at this
      have c0' : wo.cell? ⟨b', o' + k, none⟩ = some (.int .i64 L[k]) := by have := IntAt.keeps w wo b' _ _ hb hbl' hc'; rwa [Nat.mul_one] at this
      generalize L[k] = x at *
      have HB := Lib.hid hb
      have hxx : (x != x) = false := by simp
      clear hc hc' hb
      go_wp2_with fail
      go_quiet (fail)
      go_wp2
      go_roundw
      case rel => exact ⟨k + 1, by omega, by go_num, below_drewN HB.out _⟩
      case measure => simp [intOf]; omega
    · obtain rfl : k = L.length := by omega
      go_wp2_with fail
      go_ret
      exact ⟨rfl, hb⟩
theorem cIn_no {S : List St} {a b : Int} (h : a < 1 ∨ (S.length : Int) ≤ a ∨ b < 0) : cIn S a b = false := by
  rw [Bool.eq_false_iff]
  intro hc
  obtain ⟨h1, h2, h3⟩ := cIn_range hc
  unfold isSt at h3
  simp only [Bool.and_eq_true, decide_eq_true_eq] at h3
  omega
theorem cUp_is {S : List St} {k : Nat} (hk : k < S.length) : cUp S (k : Int) = if 0 ≤ (stAt S (k : Int)).par ∧ (stAt S (k : Int)).par < (k : Int) then (stAt S (k : Int)).par else -1 := by
  unfold cUp
  rw [isSt_of hk]
  by_cases h : 0 ≤ (stAt S (k : Int)).par ∧ (stAt S (k : Int)).par < (k : Int)
  · rw [if_pos h, if_pos ⟨rfl, fromB_true.2 ⟨h.1, by omega⟩⟩]
  · rw [if_neg h, if_neg]
    intro hc
    have := fromB_true.1 hc.2
    omega
end Go.Proofs.YtafcbgapllkghaaGreatDoor
