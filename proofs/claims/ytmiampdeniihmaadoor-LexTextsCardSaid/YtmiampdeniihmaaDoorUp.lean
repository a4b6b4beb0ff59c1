/- The head of the statements (spinetlaw02.up): it holds. -/
import Derived.Test.YtmiampdeniihmaaDoorTexts
import Derived.Test.YtmiampdeniihmaaDoorAsk
namespace Go.Proofs.YtmiampdeniihmaaDoor
open Go.ChangeShapes Go.WideShapes Go.ChangeAt Go.RowKit
set_option linter.unusedVariables false

theorem scan_up1 : scan [97, 43, 49] 0 [] = ([(2, 0, 0), (3, 0, 1), (1, 1, 2)], -1) := by decide +kernel
theorem scan_up2 : scan [97, 32, 61] 0 [] = ([], ((2 : Nat) : Int)) := by decide +kernel
theorem join_up : joinB [(2, 0, 0), (3, 0, 1), (1, 1, 2)] = [97, 32, 43, 32, 49] := by decide +kernel
theorem may_up : ∀ t ∈ ([(2, 0, 0), (3, 0, 1), (1, 1, 2)] : List Tk), mayB t = true := by decide
theorem small_up : ∀ t ∈ ([(2, 0, 0), (3, 0, 1), (1, 1, 2)] : List Tk), t.2.1 ≤ 9223372036854775807 := by decide

theorem up_first (w : World) (hL : Laid w) :
    Calls Tryd.prog 7 #[.string ⟨#[97, 43, 49]⟩] w fun e w' => ∃ g cap, e = .returned (.tuple #[.slice (some ⟨g, 0, none⟩) 3 cap, .nilIface]) ∧ 3 ≤ cap ∧ Below w.heap.size w w' ∧ w'.cell? ⟨g, 7, none⟩ = some (.int .i64 1) ∧ g < w'.heap.size ∧ ToksAt w' (.slice (some ⟨g, 0, none⟩) 3 cap) [(2, 0, 0), (3, 0, 1), (1, 1, 2)] := by
  refine (tokens_any ⟨#[97, 43, 49]⟩ w hL (by decide)).mono ?_
  rintro e w' ⟨hb, h⟩
  rw [show (⟨#[97, 43, 49]⟩ : ByteArray).data.toList = [97, 43, 49] from rfl, scan_up1] at h
  rcases h with ⟨_, v, rfl, hown⟩ | ⟨k, g, h, _⟩
  · have hT := ToksAt.of_own hown
    obtain ⟨A, cap, rfl, hc, hel⟩ := id hT
    obtain ⟨b, o, rfl, hlt, _, c1, _⟩ := hel 2 (1, 1, 2) rfl
    rcases hown.2 with ⟨h, _⟩ | ⟨g, cap', cur, h, _⟩
    · cases h
    · injection h with h1 h2 h3
      injection h1 with h1
      injection h1 with h4 h5
      subst h4; subst h5
      exact ⟨_, cap, rfl, hc, hb, c1, hlt, hT⟩
  · simp at h
theorem up_second (w : World) (hL : Laid w) :
    Calls Tryd.prog 7 #[.string ⟨#[97, 32, 61]⟩] w fun e w' => ∃ g, e = .returned (.tuple #[.slice none 0 0, .iface 45 (.pointer (some ⟨g, 0, none⟩))]) ∧ Below w.heap.size w w' ∧ Blk w' g 47 #[.int .i64 2, .int .i64 2] := by
  refine (tokens_any ⟨#[97, 32, 61]⟩ w hL (by decide)).mono ?_
  rintro e w' ⟨hb, h⟩
  rw [show (⟨#[97, 32, 61]⟩ : ByteArray).data.toList = [97, 32, 61] from rfl, scan_up2] at h
  rcases h with ⟨h, _⟩ | ⟨k, g, h, rfl, _, hB⟩
  · simp at h
  · obtain rfl : k = 2 := by simp at h; omega
    exact ⟨g, rfl, hb, hB⟩
theorem up_third (g cap : Nat) (w : World) (hL : Laid w) (hT : ToksAt w (.slice (some ⟨g, 0, none⟩) 3 cap) [(2, 0, 0), (3, 0, 1), (1, 1, 2)]) :
    Calls Tryd.prog 11 #[.slice (some ⟨g, 0, none⟩) 3 cap] w fun e w' => e = .returned (.tuple #[.string ⟨#[97, 32, 43, 32, 49]⟩, .nilIface]) ∧ Below w.heap.size w w' := by
  refine (text_any _ _ w hL hT small_up (by decide)).mono ?_
  rintro e w' ⟨hb, h⟩
  rcases h with ⟨_, rfl⟩ | ⟨h, _⟩
  · rw [join_up]; exact ⟨rfl, hb⟩
  · exact absurd may_up h

set_option maxHeartbeats 2000000 in
set_option maxRecDepth 100000 in
theorem up_any (w : World) (hL : Laid w) : Calls Tryd.prog 6 #[] w fun e w' => e = .returned (.bool true) ∧ Below w.heap.size w w' := by
  go_enter Tryd.func6, Tryd.ntmps6
  go_wp2_with fail
  refine (up_first _ hL).mono ?_
  rintro e w1 ⟨g, cap, rfl, hcap, hb1, c7, hg, hT⟩
  have HB1 := Lib.hid hb1
  have HT := Lib.hid hT
  have HC := Lib.hid c7
  have HL1 := Lib.hid (hL.after hb1)
  clear hb1 hT c7
  go_wp2_with fail
  refine (up_second _ HL1.out).mono ?_
  rintro e w2 ⟨g2, rfl, hb2, hB⟩
  have HB2 := Lib.hid (HB1.out.trans (hb2.mono HB1.out.size))
  have HT2 := Lib.hid (HT.out.below hb2)
  have HC2 := Lib.hid ((hb2.cell (p := ⟨g, 7, none⟩) hg).trans HC.out)
  have HBl := Lib.hid hB
  have hg2 : g < w2.heap.size := Nat.lt_of_lt_of_le hg hb2.size
  have HL2 := Lib.hid (HL1.out.after hb2)
  clear hb2 hB
  go_wp2_with fail
  refine (up_third g cap _ HL2.out HT2.out).mono ?_
  rintro e w3 ⟨rfl, hb3⟩
  have HB3 := Lib.hid (HB2.out.trans (hb3.mono HB2.out.size))
  have c7 := (hb3.cell (p := ⟨g, 7, none⟩) hg2).trans HC2.out
  have HBl3 := Lib.hid (HBl.out.below hb3 HBl.out.lt)
  have HL3 := Lib.hid (HL2.out.after hb3)
  clear hb3
  go_wp2_with fail
  refine (isSpot_yes g2 2 _ HL3.out HBl3.out).mono ?_
  rintro e w4 ⟨rfl, hb4⟩
  go_wp2
  go_ret
  exact ⟨rfl, HB3.out.trans (hb4.mono HB3.out.size)⟩
end Go.Proofs.YtmiampdeniihmaaDoor
