/- Plain words of the laws; Nums at the same numbers; pick; the head of layer 18's statements (spinetlaw18.up): it holds. -/
import Derived.Test.YtkcgpjlakhhggaaFrp
namespace Go.Proofs.Ytkcgpjlakhhggaa
open Go.ChangeShapes Go.WideShapes Go.ChangeAt Go.RowKit
set_option linter.unusedVariables false

def F64 (x : Int) : Prop := -9223372036854775808 ≤ x ∧ x ≤ 9223372036854775807
/-- one of n -/
def pickF (c n : Int) : Int := (if c < 0 then -(c + 1) else c) % n
theorem pick_any (c n : Int) (w : World) (hc : F64 c) (h0 : 0 < n) (hn : n ≤ 1000000) : Calls Try.prog 7 #[.int .i64 c, .int .i64 n] w fun e w' => w' = w ∧ e = .returned (.int .i64 (pickF c n)) := by
  have hz : ¬ n = 0 := by omega
  have hz2 : (n == 0) = false := beq_false_of_ne hz
  unfold F64 at hc
  by_cases h : c < 0
  · obtain ⟨d, hd⟩ : ∃ d, d = -(c + 1) := ⟨_, rfl⟩
    have w1 : IntKind.i64.wrap (c + 1) = c + 1 := by rw [IntKind.wrap_i64]; omega
    have w2 : IntKind.i64.wrap (-(c + 1)) = d := by rw [IntKind.wrap_i64]; omega
    have w2' : IntKind.i64.wrap (-1 + -c) = d := by rw [IntKind.wrap_i64]; omega
    have w3 : Int.tmod d n = d % n := Int.tmod_eq_emod_of_nonneg (by omega)
    have h4 := Int.emod_nonneg d hz
    have h5 := Int.emod_lt_of_pos d h0
    have w4 : IntKind.i64.wrap (d % n) = d % n := by rw [IntKind.wrap_i64]; omega
    have HR : Hid (pickF c n = d % n) := Lib.hid (by unfold pickF; rw [if_pos h, hd])
    clear hd
    go_enter Try.func7, Try.ntmps7
    go_wp2_with fail
    go_ret
    exact ⟨rfl, by rw [HR.out] <;> rfl⟩
  · have w3 : Int.tmod c n = c % n := Int.tmod_eq_emod_of_nonneg (by omega)
    have h4 := Int.emod_nonneg c hz
    have h5 := Int.emod_lt_of_pos c h0
    have w4 : IntKind.i64.wrap (c % n) = c % n := by rw [IntKind.wrap_i64]; omega
    have HR : Hid (pickF c n = c % n) := Lib.hid (by unfold pickF; rw [if_neg h])
    go_enter Try.func7, Try.ntmps7
    go_wp2_with fail
    go_ret
    exact ⟨rfl, by rw [HR.out] <;> rfl⟩
theorem pickF_in (c : Int) {n : Int} (h : 0 < n) : 0 ≤ pickF c n ∧ pickF c n < n := ⟨Int.emod_nonneg _ (by omega), Int.emod_lt_of_pos _ h⟩
theorem eql_codes (w : World) : (binOp .eql 26 (errV 1) (errV 1)).run Try.prog w = .ok (.bool true) w := by kernel_rfl
theorem neq_codes (w : World) : (binOp .neq 26 (errV 6) (errV 6)).run Try.prog w = .ok (.bool false) w ∧ (binOp .neq 26 (errV 4) (errV 4)).run Try.prog w = .ok (.bool false) w := ⟨by kernel_rfl, by kernel_rfl⟩
theorem neq_nil_code (w : World) : (binOp .neq 26 (errV 1) .nilIface).run Try.prog w = .ok (.bool true) w := by kernel_rfl
theorem eql_nil_nil (w : World) : (binOp .eql 26 .nilIface .nilIface).run Try.prog w = .ok (.bool true) w := by kernel_rfl
theorem neq_nil_nil (w : World) : (binOp .neq 26 .nilIface .nilIface).run Try.prog w = .ok (.bool false) w := by kernel_rfl
set_option maxHeartbeats 1000000 in
set_option maxRecDepth 100000 in
/-- Nums at the same numbers -/
theorem nums_same (v u : Value) (L : List Int) (w : World) (hv : ListAt w v L) (hu : ListAt w u L) (hl : L.length ≤ 1000) :
    Calls Try.prog 11 #[v, u] w fun e w' => e = .returned (.bool true) ∧ Below w.heap.size w w' := by
  obtain ⟨A, cap, rfl, hcap, he⟩ := hv
  obtain ⟨A', cap', rfl, hcap', he'⟩ := hu
  have HE := Lib.hid he
  have HE' := Lib.hid he'
  clear he he'
  go_enter Try.func11, Try.ntmps11
  go_wp2_with fail
  go_loopw [5] (fun i wr => ∃ k : Nat, k ≤ L.length ∧ i = .int .i64 (k : Int) ∧ Below w.heap.size w wr) (fun i _ => L.length - (intOf i).toNat)
  case atStart => exact ⟨0, Nat.zero_le _, rfl, Below.refl _ _⟩
  case round =>
    obtain ⟨k, hk, rfl, hb⟩ := hrel
    obtain ⟨wo, rfl⟩ : ∃ wo : World, wo = wr := ⟨_, rfl⟩
    by_cases hlt : k < L.length
    · obtain ⟨b, o, rfl, hbl, hc⟩ := HE.out k _ (List.getElem?_eq_getElem hlt)
      obtain ⟨b', o', rfl, hbl', hc'⟩ := HE'.out k _ (List.getElem?_eq_getElem hlt)
      have c0 : wo.cell? ⟨b, o + k, none⟩ = some (.int .i64 L[k]) := by have := IntAt.keeps w wo b _ _ hb hbl hc; rwa [Nat.mul_one] at this
      have c0' : wo.cell? ⟨b', o' + k, none⟩ = some (.int .i64 L[k]) := by have := IntAt.keeps w wo b' _ _ hb hbl' hc'; rwa [Nat.mul_one] at this
      generalize L[k] = x at *
      have HB := Lib.hid hb
      have hxx : (x != x) = false := by simp
      clear hc hc' hb
      go_wp2_with fail
      go_quiet (fail)
      go_wp2
      go_roundw
      case rel => exact ⟨k + 1, by omega, by go_num, below_drewN HB.out _⟩
      case measure => simp [intOf]; omega
    · obtain rfl : k = L.length := by omega
      go_wp2_with fail
      go_ret
      exact ⟨rfl, hb⟩
/-- the end of a row of one's own -/
theorem list_from {w : World} {B : Nat} {e : TypeId} {g cap b : Nat} {L : List Int} (h : w.ownsRow B e 1 (.slice (some ⟨g, 0, none⟩) L.length cap) L.length (intVals L)) (hb : b ≤ L.length) (A : Option Addr) (hA : A = if cap = b then some ⟨g, 0, none⟩ else some ⟨g, b, none⟩) :
    ListAt w (.slice A (L.length - b) (cap - b)) (L.drop b) := by
  obtain ⟨A0, cap0, h1, h2, h3⟩ := list_of_own h
  injection h1 with e1 e2 e3
  subst e1; subst e3
  refine ⟨A, cap - b, by rw [List.length_drop], by rw [List.length_drop]; omega, fun i x hx => ?_⟩
  rw [List.getElem?_drop] at hx
  have hl := (List.getElem?_eq_some_iff.1 hx).1
  obtain ⟨g', o', hg, hlt, hc⟩ := h3 (b + i) x hx
  injection hg with hg
  injection hg with e1 e2
  subst e1; subst e2
  refine ⟨g, b, by rw [hA, if_neg (by omega)], hlt, ?_⟩
  rw [show b + i * 1 = 0 + (b + i) * 1 by omega]
  exact hc

/-! ### what is kept, and lost, for one that has read up to f -/
def beg (room n f : Nat) : Nat := if room < n - f then n - room else f
def rdOf (room : Nat) (all : List Int) (f : Nat) : Rd := ⟨all.drop (beg room all.length f), beg room all.length f - f⟩
theorem beg_in {room n f : Nat} (hf : f ≤ n) : f ≤ beg room n f ∧ beg room n f ≤ n ∧ n - beg room n f ≤ room := by
  unfold beg
  split <;> omega
theorem rdOf_add {room : Nat} {all : List Int} {f : Nat} (x : Int) (h1 : 1 ≤ room) (hf : f ≤ all.length) : addR room x (rdOf room all f) = rdOf room (all ++ [x]) f := by
  have hb := beg_in (room := room) hf
  unfold addR rdOf
  simp only [List.length_drop, List.length_append, List.length_singleton]
  by_cases h : all.length - beg room all.length f = room
  · rw [if_pos h]
    have e : beg room (all.length + 1) f = beg room all.length f + 1 := by
      unfold beg at h ⊢
      split at h <;> split <;> first | omega | (split <;> omega) | skip
    rw [e, List.drop_drop, List.drop_append_of_le_length (by omega)]
    congr 1
    omega
  · rw [if_neg h]
    have e : beg room (all.length + 1) f = beg room all.length f := by
      unfold beg at h ⊢
      split at h <;> split <;> first | omega | (split <;> omega) | skip
    rw [e, List.drop_append_of_le_length (by omega)]
theorem rdOf_new (room : Nat) (all : List Int) : rdOf room all all.length = ⟨[], 0⟩ := by
  have e : beg room all.length all.length = all.length := by unfold beg; split <;> omega
  unfold rdOf
  rw [e]
  simp
theorem rdOf_fit {room : Nat} {all : List Int} {f : Nat} (hf : f ≤ all.length) : (rdOf room all f).kept.length ≤ room ∧ (rdOf room all f).lost ≤ all.length := by
  have := beg_in (room := room) hf
  unfold rdOf
  simp only [List.length_drop]
  omega
end Go.Proofs.Ytkcgpjlakhhggaa
