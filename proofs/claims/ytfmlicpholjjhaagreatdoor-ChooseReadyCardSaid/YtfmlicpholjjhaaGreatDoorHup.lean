/- The head of layer 10's statements (spinetlaw10.up): it holds. -/
import Derived.Test.YtfmlicpholjjhaaGreatDoorHga
namespace Go.Proofs.YtfmlicpholjjhaaGreatDoor
open Go.ChangeShapes Go.WideShapes Go.ChangeAt Go.RowKit
set_option linter.unusedVariables false

/-- New of a chart that may not be: no tree, and an error -/
theorem npost_no {C : Ch} {w w' : World} {e : Ending} (h : NPost C w e w') (hn : ¬ chk hasTB C = .ok) : Below w.heap.size w w' ∧ ((∃ p, e = .returned (.tuple #[.pointer none, .iface 80 p])) ∨ ∃ p, e = .returned (.tuple #[.pointer none, .iface 82 p])) := by
  unfold NPost at h
  cases hc : chk hasTB C with
  | ok => exact absurd hc hn
  | large =>
    rw [hc] at h
    exact ⟨h.1, .inl ⟨_, h.2⟩⟩
  | spot k c =>
    rw [hc] at h
    obtain ⟨hb, g, he, _⟩ := h
    exact ⟨hb, .inr ⟨_, he⟩⟩
theorem npost_yes {C : Ch} {w w' : World} {e : Ending} (h : NPost C w e w') (hk : chk hasTB C = .ok) : Below w.heap.size w w' ∧ ∃ g, e = .returned (.tuple #[.pointer (some ⟨g, 0, none⟩), .nilIface]) ∧ w.heap.size ≤ g ∧ TreeAt w' g C := by
  unfold NPost at h
  rw [hk] at h
  exact h
def chA : Ch := ⟨0, [⟨2, -1, [1], [], []⟩, ⟨1, 0, [], [], []⟩], [⟨1, 1, ⟨#[49, 47, 48, 60, 49]⟩, [], false, []⟩]⟩
theorem chkA : chk hasTB chA = .ok := by kernel_rfl
theorem fewA : fewB chA = true := by kernel_rfl
theorem gaA2 : gaL chA [] 2 3 = ([], 0) := by kernel_rfl
theorem gaA1 : gaL chA [] 1 3 = ([], 1) := by kernel_rfl
abbrev twoCells (vi : Value) : Array Value := #[.int .i64 2, .int .i64 (-1), vi, .slice none 0 0, .slice none 0 0, .int .i64 1, .int .i64 0, .slice none 0 0, .slice none 0 0, .slice none 0 0]
abbrev stTwo (vi : Value) : Obj := .cells (twoCells vi) 53
abbrev trOneC : Array Value := #[.int .i64 1, .int .i64 1, .string ⟨#[49, 47, 48, 60, 49]⟩, .slice none 0 0, .bool false, .slice none 0 0]
theorem up_hasA {W : World} {g0 g1 g2 : Nat} (h0 : Blk W g0 3 #[.int .i64 1]) (h : Blk W g1 53 (twoCells (.slice (some ⟨g0, 0, none⟩) 1 1))) (h2 : Blk W g2 40 trOneC) : ChHas W (.slice (some ⟨g1, 0, none⟩) 2 2) (.slice (some ⟨g2, 0, none⟩) 1 1) chA := by
  have hL : ListAt W (.slice (some ⟨g0, 0, none⟩) 1 1) [1] := one_list g0 h0
  refine ⟨⟨_, 2, rfl, Nat.le_refl _, fun i x hx => ?_⟩, ⟨_, 1, rfl, Nat.le_refl _, fun i x hx => ?_⟩⟩
  · match i, hx with
    | 0, hx =>
      simp [chA] at hx
      subst hx
      exact ⟨g1, 0, rfl, h.lt, _, _, _, ⟨h.cell 0, h.cell 1, h.cell 2, h.cell 3, h.cell 4⟩, hL, RowsAt.nil W, RowsAt.nil W⟩
    | 1, hx =>
      simp [chA] at hx
      subst hx
      exact ⟨g1, 0, rfl, h.lt, _, _, _, ⟨h.cell 5, h.cell 6, h.cell 7, h.cell 8, h.cell 9⟩, RowsAt.nil W, RowsAt.nil W, RowsAt.nil W⟩
    | i + 2, hx => simp [chA] at hx
  · match i, hx with
    | 0, hx =>
      simp [chA] at hx
      subst hx
      exact ⟨g2, 0, rfl, h2.lt, _, _, ⟨h2.cell 0, h2.cell 1, h2.cell 2, h2.cell 3, h2.cell 4, h2.cell 5⟩, RowsAt.nil W, RowsAt.nil W⟩
    | i + 1, hx => simp [chA] at hx
/-- Sift of a nil tree -/
theorem siftNil_any (n : Int) (g : Nat) (x : Int) (w : World) (hg : Blk w g 3 #[.int .i64 x]) :
    Calls Tryz.prog 14 #[.pointer none, .int .u32 n, .slice (some ⟨g, 0, none⟩) 1 1] w fun e w' => e = .returned (.slice none 0 0) ∧ w = w' := by
  have c0 := hg.cell 0
  simp at c0
  have HP := Lib.hid (fun W => isPlace_any none ([] : List Tr) 0 x W (by simp))
  have hn : isTr ([] : List Tr) x = false := by
    unfold isTr
    simp
  have HN := Lib.hid hn
  clear hg hn
  go_enter Tryz.func14, Tryz.ntmps14
  go_wp2_with fail
  refine (ctrans_nil _).mono ?_
  rintro e w1 ⟨rfl, rfl⟩
  go_wp2_with fail
  go_loopw [8, 18] (fun v i wr => ∃ k : Nat, k ≤ 1 ∧ i = .int .i64 (k : Int) ∧ v = .slice none 0 0 ∧ wr = w) (fun _ i _ => 1 - (intOf i).toNat)
  case atStart => exact ⟨0, Nat.zero_le _, rfl, rfl, rfl⟩
  case round =>
    obtain ⟨k, hk, rfl, rfl, rfl⟩ := hrel
    by_cases hlt : k < 1
    · obtain rfl : k = 0 := by omega
      go_wp2_with fail
      refine (HP.out _).mono ?_
      rintro e w1 ⟨rfl, rfl⟩
      rw [HN.out]
      go_wp2_with fail
      go_roundw
      case rel => exact ⟨1, by omega, by go_num, rfl, trivial⟩
      case measure => simp [intOf]
    · obtain rfl : k = 1 := by omega
      clear c0
      go_wp2_with fail
      obtain ⟨wo, rfl⟩ : ∃ wo : World, wo = wr := ⟨_, rfl⟩
      go_loopw [11, 48] (fun v i wr => v = .slice none 0 0 ∧ i = .int .i64 0 ∧ wr = wo) (fun _ _ _ => 0)
      case atStart => exact ⟨rfl, rfl, rfl⟩
      case round =>
        obtain ⟨rfl, rfl, rfl⟩ := hrel
        go_wp2_with fail
        go_ret
        exact ⟨rfl, rfl⟩
theorem rootedA : Rooted chA.sts := rooted_of chkA
theorem tameA : Tame chA.sts := tame_of chkA
set_option maxHeartbeats 4000000 in
set_option maxRecDepth 100000 in
theorem upH_any (w : World) (hL : Laid w) : Calls Tryz.prog 6 #[] w fun e w' => e = .returned (.bool true) ∧ Below w.heap.size w w' := by
  have hnn := neq_nil_nil
  have HL := Lib.hid hL
  have HGA := Lib.hid (fun (t : Nat) (ev : Int) (W : World) (hLW : Laid W) (hT : TreeAt W t chA) => gather_any t 3 (.slice none 0 0) ev chA [] W hLW hT fewA tameA rootedA (by decide) ⟨none, 0, rfl, Nat.le_refl _, fun i t h => by simp at h⟩ (by simp) (by simp))
  clear hL
  go_enter Tryz.func6, Tryz.ntmps6
  go_wp2_with fail
  have hk0 := ((Blk.new w 3 #[.int .i64 1]).alloc (stTwo (.slice (some ⟨w.heap.size, 0, none⟩) 1 1))).alloc (.cells trOneC 40)
  have hk1 := (Blk.new_at (w.alloc (.cells #[.int .i64 1] 3)) 53 (twoCells (.slice (some ⟨w.heap.size, 0, none⟩) 1 1)) (w.heap.size + 1) (by simp)).alloc (.cells trOneC 40)
  have hk2 := Blk.new_at ((w.alloc (.cells #[.int .i64 1] 3)).alloc (stTwo (.slice (some ⟨w.heap.size, 0, none⟩) 1 1))) 40 trOneC (w.heap.size + 1 + 1) (by simp)
  have HB0 := Lib.hid ((((Below.refl w.heap.size w).alloc (Nat.le_refl _) (.cells #[.int .i64 1] 3)).alloc (by simp) (stTwo (.slice (some ⟨w.heap.size, 0, none⟩) 1 1))).alloc (by simp; omega) (.cells trOneC 40))
  have HC := Lib.hid (up_hasA hk0 hk1 hk2)
  clear hk0 hk1 hk2
  refine (new_any _ _ chA _ (HL.out.after HB0.out) HC.out fewA).mono ?_
  intro e w1 hp
  unfold NPost at hp
  rw [chkA] at hp
  obtain ⟨hb1, t, rfl, _, hT⟩ := hp
  have HB1 := Lib.hid (HB0.out.trans (hb1.mono HB0.out.size))
  have HT1 := Lib.hid hT
  clear hb1 hT
  go_wp2_with fail
  have HG2 := HGA.out t 2 w1 (HL.out.after HB1.out) HT1.out
  rw [gaA2] at HG2
  refine HG2.mono ?_
  rintro e w2 ⟨hb2, v2, rfl, ho2⟩
  obtain ⟨A2, cap2, rfl, _, _⟩ := list_of_own ho2
  have HB2 := Lib.hid (HB1.out.trans (hb2.mono HB1.out.size))
  have HT2 := Lib.hid (HT1.out.below hb2)
  clear hb2 ho2 HG2
  go_wp2_with fail
  have HG1 := HGA.out t 1 w2 (HL.out.after HB2.out) HT2.out
  rw [gaA1] at HG1
  refine HG1.mono ?_
  rintro e w3 ⟨hb3, v3, rfl, ho3⟩
  have HB3 := Lib.hid (HB2.out.trans (hb3.mono HB2.out.size))
  clear hb3 ho3 HG1
  go_wp2_with fail
  refine (siftNil_any 3 _ 0 _ (Blk.new w3 3 #[.int .i64 0])).mono ?_
  rintro e w4 ⟨rfl, rfl⟩
  go_wp2_with fail
  go_ret
  exact ⟨rfl, HB3.out.alloc HB3.out.size _⟩
end Go.Proofs.YtfmlicpholjjhaaGreatDoor
