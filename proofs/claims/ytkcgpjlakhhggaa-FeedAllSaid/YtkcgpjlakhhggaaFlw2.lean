/- FeedAll: what a reader reads, with what was lost, is all that came. -/
import Derived.Test.YtkcgpjlakhhggaaFhd
namespace Go.Proofs.Ytkcgpjlakhhggaa
open Go.ChangeShapes Go.WideShapes Go.ChangeAt Go.RowKit
set_option linter.unusedVariables false

theorem eql_code_nil (w : World) : (binOp .eql 26 (errV 1) .nilIface).run Try.prog w = .ok (.bool false) w := by kernel_rfl
set_option maxHeartbeats 2000000 in
set_option maxRecDepth 100000 in
theorem all_bad (room : Int) (v1 v2 : Value) (w : World) (h : room < 1 ∨ 100 < room) : Calls Try.prog 4 #[.int .i64 room, v1, v2] w fun e w' => e = .returned (.bool true) ∧ Below w.heap.size w w' := by
  have en := neq_nil_code
  have ee := eql_code_nil
  have HU := Lib.hid (up_any w)
  have HN := Lib.hid (fun W => new_bad room W h)
  clear h
  go_enter Try.func4, Try.ntmps4
  go_wp2_with fail
  refine HU.out.mono ?_
  rintro e w1 ⟨rfl, hb1⟩
  have HB1 := Lib.hid hb1
  clear hb1
  go_wp2_with fail
  refine (HN.out w1).mono ?_
  rintro e w2 ⟨rfl, rfl⟩
  go_wp2_with fail
  go_ret
  exact ⟨rfl, HB1.out⟩
set_option maxHeartbeats 2000000 in
set_option maxRecDepth 100000 in
theorem all_long (room : Nat) (A1 A2 : Option Addr) (n1 n2 c1 c2 : Nat) (w : World) (h1 : 1 ≤ room) (h2 : room ≤ 100) (h : 200 < n1 ∨ 100 < n2) : Calls Try.prog 4 #[.int .i64 (room : Int), .slice A1 n1 c1, .slice A2 n2 c2] w fun e w' => e = .returned (.bool true) ∧ Below w.heap.size w w' := by
  have en := neq_nil_nil
  have ee := eql_nil_nil
  have HU := Lib.hid (up_any w)
  have HN := Lib.hid (fun W => new_ok room W h1 h2)
  by_cases ha : 200 < n1
  · have haz : 200 < (n1 : Int) := by omega
    clear h
    go_enter Try.func4, Try.ntmps4
    go_wp2_with fail
    refine HU.out.mono ?_
    rintro e w1 ⟨rfl, hb1⟩
    have HB1 := Lib.hid hb1
    clear hb1
    go_wp2_with fail
    refine (HN.out w1).mono ?_
    rintro e w2 ⟨rfl, hF, hb2⟩
    have HB2 := Lib.hid (HB1.out.trans (hb2.mono HB1.out.size))
    clear hF hb2
    go_wp2_with fail
    go_ret
    exact ⟨rfl, HB2.out⟩
  · have haz : ¬ 200 < (n1 : Int) := by omega
    have hbz : 100 < (n2 : Int) := by omega
    clear h
    go_enter Try.func4, Try.ntmps4
    go_wp2_with fail
    refine HU.out.mono ?_
    rintro e w1 ⟨rfl, hb1⟩
    have HB1 := Lib.hid hb1
    clear hb1
    go_wp2_with fail
    refine (HN.out w1).mono ?_
    rintro e w2 ⟨rfl, hF, hb2⟩
    have HB2 := Lib.hid (HB1.out.trans (hb2.mono HB1.out.size))
    clear hF hb2
    go_wp2_with fail
    go_ret
    exact ⟨rfl, HB2.out⟩
/-- what has come, and gone -/
def SumOk (room n M : Nat) (r : Rd) : Prop := r.kept.length + r.lost + M = n ∧ r.kept.length ≤ room ∧ (0 < r.lost → r.kept.length = room)
theorem SumOk.add {room n M : Nat} {r : Rd} (x : Int) (h1 : 1 ≤ room) (h : SumOk room n M r) : SumOk room (n + 1) M (addR room x r) := by
  obtain ⟨a, b, c⟩ := h
  unfold SumOk addR
  split
  · simp only [List.length_append, List.length_drop, List.length_singleton]
    omega
  · simp only [List.length_append, List.length_singleton]
    refine ⟨by omega, by omega, fun h => ?_⟩
    have := c h
    omega
theorem SumOk.poll {room n M : Nat} {r : Rd} (h : SumOk room n M r) : SumOk room n (M + r.kept.length + r.lost) ⟨[], 0⟩ := by
  obtain ⟨a, b, c⟩ := h
  unfold SumOk
  simp only [List.length_nil]
  omega
def AllAt (W0 : Nat) (w : World) (g room : Nat) (rv : Value) (n M : Nat) : Prop := ∃ us r, rds us = [r] ∧ FeAt W0 w g room rv us ∧ SumOk room n M r
theorem AllAt.add {W0 g room n M : Nat} {rv : Value} {w : World} (x : Int) (h : AllAt W0 w g room rv n M) (h1 : 1 ≤ room) (h2 : room ≤ 100) (hn : n ≤ 1000) :
    Calls Try.prog 8 #[.pointer (some ⟨g, 0, none⟩), .int .i64 x] w fun e w' => e = .returned (.tuple #[]) ∧ AllAt W0 w' g room rv (n + 1) M ∧ ∀ a : World, W0 = a.heap.size → Below W0 a w → Below W0 a w' := by
  obtain ⟨us, r, hr, hF, hS⟩ := h
  refine (add_any W0 g room rv us x w hF ⟨by rw [hr]; simp, fun r' hr' => ?_⟩ h1 h2).mono ?_
  · rw [hr] at hr'
    obtain rfl := List.mem_singleton.1 hr'
    obtain ⟨a, b, c⟩ := hS
    omega
  · rintro e w' ⟨rfl, us', h1', h2', h3, h4, h5⟩
    refine ⟨rfl, ⟨us', _, by rw [h1', hr]; rfl, h3, hS.add x h1⟩, fun a ha hb => ?_⟩
    subst ha
    exact below_kb hb h4 (fun b hb => (hF.own_lt b hb).1)
theorem AllAt.poll {W0 g room n M : Nat} {rv : Value} {w : World} (h : AllAt W0 w g room rv n M) :
    Calls Try.prog 10 #[.pointer (some ⟨g, 0, none⟩), .int .i64 0] w fun e w' => ∃ (A : Option Addr) (kl cap lo : Nat), e = .returned (.tuple #[.slice A kl cap, .int .i64 (lo : Int), .nilIface]) ∧ kl + lo + M = n ∧ kl ≤ room ∧ (0 < lo → kl = room) ∧ AllAt W0 w' g room rv n (M + kl + lo) ∧ ∀ a : World, W0 = a.heap.size → Below W0 a w → Below W0 a w' := by
  obtain ⟨us, r, hr, hF, hS⟩ := h
  obtain ⟨v, rfl⟩ := one_of_rds hr
  have hp := poll_ok W0 g room rv _ w 0 (v, r) hF rfl (by simp)
  refine Calls.mono (show Calls Try.prog 10 #[.pointer (some ⟨g, 0, none⟩), .int .i64 0] w _ from hp) ?_
  rintro e w' ⟨rfl, ⟨A, cap, hv, _⟩, hF', hk, ho⟩
  simp only at hv
  refine ⟨A, r.kept.length, cap, r.lost, by rw [hv], hS.1, hS.2.1, hS.2.2, ⟨_, ⟨[], 0⟩, by simp [rds], hF', hS.poll⟩, fun a ha hb => ?_⟩
  subst ha
  exact below_kb hb hk (fun b hb => (hF.own_lt b hb).1)
set_option maxHeartbeats 4000000 in
set_option maxRecDepth 100000 in
theorem all_main (room : Nat) (v1 v2 : Value) (l ps : List Int) (w : World) (hL : ListAt w v1 l) (hP : ListAt w v2 ps) (h1 : 1 ≤ room) (h2 : room ≤ 100) (hl : l.length ≤ 200) (hp : ps.length ≤ 100) : Calls Try.prog 4 #[.int .i64 (room : Int), v1, v2] w fun e w' => e = .returned (.bool true) ∧ Below w.heap.size w w' := by
  have en := neq_nil_nil
  have ee := eql_nil_nil
  have HU := Lib.hid (up_any w)
  have HN := Lib.hid (fun W => new_ok room W h1 h2)
  obtain ⟨A1, cap1, rfl, hc1, he1⟩ := hL
  obtain ⟨A2, cap2, rfl, hc2, he2⟩ := hP
  have HE1 := Lib.hid he1
  have HE2 := Lib.hid he2
  have haz : ¬ 200 < (l.length : Int) := by omega
  have hbz : ¬ 100 < (ps.length : Int) := by omega
  obtain ⟨W0, HW0⟩ : ∃ W0, Hid (W0 = w.heap.size) := ⟨_, Lib.hid rfl⟩
  clear hc1 hc2 he1 he2
  go_enter Try.func4, Try.ntmps4
  go_wp2_with fail
  refine HU.out.mono ?_
  rintro e w1 ⟨rfl, hb1⟩
  have HB1 := Lib.hid hb1
  clear hb1
  go_wp2_with fail
  refine (HN.out w1).mono ?_
  rintro e w2 ⟨rfl, hF, hb2⟩
  have HB2 := Lib.hid (HB1.out.trans (hb2.mono HB1.out.size))
  have hF' := hF.base (B' := W0) (by rw [HW0.out]; exact HB1.out.size)
  generalize w1.heap.size = g at hF'
  have HF := Lib.hid hF'
  have HC := Lib.hid (read_ok W0 g room _ [] w2 hF' (by simp))
  clear hF hb2 hF'
  go_wp2_with fail
  refine HC.out.mono ?_
  rintro e w3 ⟨rfl, rv, hF3, hk3, ho3⟩
  have HB3 : Hid (Below w.heap.size w w3) := Lib.hid (below_kb HB2.out hk3 (fun b hb => by rw [← HW0.out]; exact (HF.out.own_lt b hb).1))
  have HA3 : Hid (AllAt W0 w3 g room rv 0 0) := Lib.hid ⟨_, ⟨[], 0⟩, by simp [rds], hF3, by unfold SumOk; simp⟩
  clear hF3 hk3 ho3 HC HF
  go_wp2_with fail
  go_loopg [13, 12] l.length (fun kx s13 s12 wr => ∃ (i M : Nat), s13 = .int .i64 (i : Int) ∧ s12 = .int .i64 (M : Int) ∧ i ≤ l.length ∧ l.length - i ≤ kx ∧ Hid (AllAt W0 wr g room rv i M) ∧ Hid (Below w.heap.size w wr))
  case atStart => exact ⟨0, 0, rfl, rfl, Nat.zero_le _, by omega, HA3, HB3⟩
  case round =>
    clear HA3 HB3 HB2 HB1
    obtain ⟨i, M, hs13, hs12, hi, hkx, HA, HB⟩ := hrel
    subst hs13
    subst hs12
    obtain ⟨wi, rfl⟩ : ∃ W : World, W = wr := ⟨_, rfl⟩
    by_cases hlt : i < l.length
    · have hltz : (i : Int) < (l.length : Int) := by omega
      have hx := List.getElem?_eq_getElem hlt
      obtain ⟨b, o, rfl, hbl, hc⟩ := HE1.out i _ hx
      have c0 := (HB.out.cell (p := ⟨b, _, none⟩) hbl).trans hc
      generalize l[i] = x at c0
      simp only [Nat.mul_one] at c0
      have HC := Lib.hid (HA.out.add x h1 h2 (by omega))
      have wi1 : IntKind.i64.wrap ((i : Int) + 1) = (i : Int) + 1 := by rw [IntKind.wrap_i64]; omega
      clear hx hc hbl
      go_wp2_with fail
      refine HC.out.mono ?_
      rintro e w4 ⟨rfl, hA4, hb4⟩
      have HA4 := Lib.hid hA4
      have HB4 : Hid (Below w.heap.size w w4) := Lib.hid (by have := hb4 w HW0.out (by rw [HW0.out]; exact HB.out); rwa [HW0.out] at this)
      clear hA4 hb4 c0
      go_wp2_with fail
      go_loopg [14, 12] ps.length (fun ky s14 s12 wr => ∃ (k M : Nat), s14 = .int .i64 (k : Int) ∧ s12 = .int .i64 (M : Int) ∧ k ≤ ps.length ∧ ps.length - k ≤ ky ∧ Hid (AllAt W0 wr g room rv (i + 1) M) ∧ Hid (Below w.heap.size w wr))
      case atStart => exact ⟨0, M, rfl, rfl, Nat.zero_le _, by omega, HA4, HB4⟩
      case round =>
        clear HA4 HB4 HA HB
        obtain ⟨k, M, hs14, hs12, hk, hky, HA, HB⟩ := hrel
        subst hs14
        subst hs12
        obtain ⟨wj, rfl⟩ : ∃ W : World, W = wr := ⟨_, rfl⟩
        by_cases hkt : k < ps.length
        · have hktz : (k : Int) < (ps.length : Int) := by omega
          have hx := List.getElem?_eq_getElem hkt
          obtain ⟨b, o, rfl, hbl, hc⟩ := HE2.out k _ hx
          have c0 := (HB.out.cell (p := ⟨b, _, none⟩) hbl).trans hc
          generalize ps[k] = y at c0
          simp only [Nat.mul_one] at c0
          have wk1 : IntKind.i64.wrap ((k : Int) + 1) = (k : Int) + 1 := by rw [IntKind.wrap_i64]; omega
          clear hx hc hbl
          by_cases hy : y = (i : Int)
          · subst hy
            have HC := Lib.hid HA.out.poll
            go_wp2_with fail
            refine HC.out.mono ?_
            rintro e w5 ⟨A5, kl, cap5, lo, rfl, hs, hkl, hlo, hA5, hb5⟩
            have HA5 := Lib.hid hA5
            have HB5 : Hid (Below w.heap.size w w5) := Lib.hid (by have := hb5 w HW0.out (by rw [HW0.out]; exact HB.out); rwa [HW0.out] at this)
            have hklz : ¬ (room : Int) < (kl : Int) := by omega
            obtain ⟨s1, hs1⟩ : ∃ s1 : Int, s1 = (M : Int) + (kl : Int) := ⟨_, rfl⟩
            obtain ⟨s2, hs2⟩ : ∃ s2 : Nat, s2 = M + kl + lo := ⟨_, rfl⟩
            have ws1 : IntKind.i64.wrap ((M : Int) + (kl : Int)) = s1 := by rw [IntKind.wrap_i64]; omega
            have ws2 : IntKind.i64.wrap (s1 + (lo : Int)) = (s2 : Int) := by rw [IntKind.wrap_i64]; omega
            rw [← hs2] at HA5
            clear hA5 hb5 hs1 hs2 c0 hs
            by_cases hl0 : 0 < lo
            · have e0 := hlo hl0
              subst e0
              have hl0z : 0 < (lo : Int) := by omega
              clear hlo
              go_wp2_with fail
              go_roundg (ps.length - (k + 1))
              case measure => omega
              case rel => exact ⟨k + 1, s2, by go_num, rfl, by omega, by omega, HA5, HB5⟩
            · have hl0z : ¬ 0 < (lo : Int) := by omega
              clear hlo
              go_wp2_with fail
              go_roundg (ps.length - (k + 1))
              case measure => omega
              case rel => exact ⟨k + 1, s2, by go_num, rfl, by omega, by omega, HA5, HB5⟩
          · have hyb : (y == (i : Int)) = false := beq_false_of_ne hy
            go_wp2_with fail
            go_roundg (ps.length - (k + 1))
            case measure => omega
            case rel => exact ⟨k + 1, M, by go_num, rfl, by omega, by omega, HA, HB⟩
        · have hktz : ¬ (k : Int) < (ps.length : Int) := by omega
          go_wp2_with fail
          go_roundg (l.length - (i + 1))
          case measure => omega
          case rel => exact ⟨i + 1, M, by go_num, rfl, by omega, by omega, HA, HB⟩
    · have hltz : ¬ (i : Int) < (l.length : Int) := by omega
      obtain rfl : i = l.length := by omega
      have HC := Lib.hid HA.out.poll
      go_wp2_with fail
      refine HC.out.mono ?_
      rintro e w5 ⟨A5, kl, cap5, lo, rfl, hs, hkl, hlo, hA5, hb5⟩
      have HB5 : Hid (Below w.heap.size w w5) := Lib.hid (by have := hb5 w HW0.out (by rw [HW0.out]; exact HB.out); rwa [HW0.out] at this)
      obtain ⟨s1, hs1⟩ : ∃ s1 : Int, s1 = (M : Int) + (kl : Int) := ⟨_, rfl⟩
      have ws1 : IntKind.i64.wrap ((M : Int) + (kl : Int)) = s1 := by rw [IntKind.wrap_i64]; omega
      have ws2 : IntKind.i64.wrap (s1 + (lo : Int)) = (l.length : Int) := by rw [IntKind.wrap_i64]; omega
      clear hA5 hb5 hs1 hs hlo
      go_wp2_with fail
      go_ret
      exact ⟨rfl, HB5.out⟩
theorem all_any (room : Int) (v1 v2 : Value) (l ps : List Int) (w : World) (hL : ListAt w v1 l) (hP : ListAt w v2 ps) : Calls Try.prog 4 #[.int .i64 room, v1, v2] w fun e w' => e = .returned (.bool true) ∧ Below w.heap.size w w' := by
  by_cases hr : room < 1 ∨ 100 < room
  · exact all_bad room v1 v2 w hr
  · obtain ⟨n, rfl⟩ : ∃ n : Nat, room = (n : Int) := ⟨room.toNat, by omega⟩
    by_cases hl : 200 < l.length ∨ 100 < ps.length
    · obtain ⟨A1, cap1, rfl, _⟩ := hL
      obtain ⟨A2, cap2, rfl, _⟩ := hP
      exact all_long n A1 A2 _ _ cap1 cap2 w (by omega) (by omega) hl
    · exact all_main n v1 v2 l ps w hL hP (by omega) (by omega) (by omega) (by omega)
end Go.Proofs.Ytkcgpjlakhhggaa
