/- The head of layer 3's statements (spinetlaw03.up): it holds. -/
import Derived.Test.YtdeopkjpglkdhaaGreatDoorPparse
import Derived.Test.YtdeopkjpglkdhaaGreatDoorTtext
import Derived.Test.YtdeopkjpglkdhaaGreatDoorZtold
namespace Go.Proofs.YtdeopkjpglkdhaaGreatDoor
open Go.ChangeShapes Go.WideShapes Go.ChangeAt Go.RowKit
set_option linter.unusedVariables false

def upToks : List Tk := [(2, 0, 0), (1, 1, 0), (3, 0, 0), (1, 2, 0), (8, 0, 0)]
theorem up_ans1 : parseAns [97, 43, 49, 60, 50] = .toks upToks := by kernel_rfl
theorem up_ans2 : parseAns [] = .form 0 := by kernel_rfl
theorem up_may : mayP upToks = true := by decide +kernel
theorem up_stk : stk upToks upToks.length = [⟨[40, 40, 97, 43, 49, 41, 60, 50, 41], 0, true⟩] := by kernel_rfl
theorem up_small : ∀ t ∈ upToks, t.2.1 ≤ 9223372036854775807 := by decide
theorem up_first (w : World) (hL : Laid w) :
    Calls Tryz.prog 6 #[.string ⟨#[97, 43, 49, 60, 50]⟩] w fun e w' => ∃ g cap, e = .returned (.tuple #[.slice (some ⟨g, 0, none⟩) 5 cap, .nilIface]) ∧ 5 ≤ cap ∧ Below w.heap.size w w' ∧ w'.cell? ⟨g, 12, none⟩ = some (.int .i64 8) ∧ g < w'.heap.size ∧ ToksAt w' (.slice (some ⟨g, 0, none⟩) 5 cap) upToks := by
  have h := parse_any ⟨#[97, 43, 49, 60, 50]⟩ w hL (by decide)
  rw [show (⟨#[97, 43, 49, 60, 50]⟩ : ByteArray).data.toList = [97, 43, 49, 60, 50] from rfl, up_ans1] at h
  refine h.mono ?_
  rintro e w' ⟨hb, v, rfl, hown⟩
  have hT := ToksAt.of_own hown
  obtain ⟨A, cap, rfl, hc, hel⟩ := id hT
  obtain ⟨b, o, rfl, hlt, c0, _⟩ := hel 4 (8, 0, 0) rfl
  rcases hown.2 with ⟨h, _⟩ | ⟨g, cap', cur, h, _⟩
  · cases h
  · injection h with h1 h2 h3
    injection h1 with h1
    injection h1 with h4 h5
    subst h4; subst h5
    exact ⟨_, cap, rfl, hc, hb, c0, hlt, hT⟩
theorem up_second (w : World) (hL : Laid w) :
    Calls Tryz.prog 6 #[.string ⟨#[]⟩] w fun e w' => ∃ g, e = .returned (.tuple #[.slice none 0 0, .iface 44 (.pointer (some ⟨g, 0, none⟩))]) ∧ Below w.heap.size w w' ∧ Blk w' g 47 #[.int .i64 0, .int .i64 2] := by
  have h := parse_any ⟨#[]⟩ w hL (by decide)
  rw [show (⟨#[]⟩ : ByteArray).data.toList = [] from rfl, up_ans2] at h
  refine h.mono ?_
  rintro e w' ⟨hb, g, rfl, _, hB⟩
  exact ⟨g, rfl, hb, hB⟩
theorem up_third (g cap : Nat) (w : World) (hL : Laid w) (hT : ToksAt w (.slice (some ⟨g, 0, none⟩) 5 cap) upToks) :
    Calls Tryz.prog 11 #[.slice (some ⟨g, 0, none⟩) 5 cap] w fun e w' => e = .returned (.tuple #[.string ⟨#[40, 40, 97, 43, 49, 41, 60, 50, 41]⟩, .nilIface]) ∧ Below w.heap.size w w' := by
  refine (ptext_any _ upToks w hL hT up_small (by decide)).mono ?_
  rintro e w' ⟨hb, ⟨h, _⟩ | ⟨_, x, hx, h⟩⟩
  · rw [up_may] at h; cases h
  · rw [up_stk] at hx
    injection hx with hx
    subst hx
    rcases h with ⟨_, rfl⟩ | ⟨h, _⟩
    · exact ⟨rfl, hb⟩
    · cases h
set_option maxHeartbeats 2000000 in
set_option maxRecDepth 100000 in
theorem up_any (w : World) (hL : Laid w) : Calls Tryz.prog 5 #[] w fun e w' => e = .returned (.bool true) ∧ Below w.heap.size w w' := by
  have f0 := eql_nil
  go_enter Tryz.func5, Tryz.ntmps5
  go_wp2_with fail
  refine (up_first _ hL).mono ?_
  rintro e w1 ⟨g, cap, rfl, hcap, hb1, c7, hg, hT⟩
  have HB1 := Lib.hid hb1
  have HT := Lib.hid hT
  have HC := Lib.hid c7
  have HL1 := Lib.hid (hL.after hb1)
  clear hb1 hT c7
  go_wp2_with fail
  refine (up_third g cap _ HL1.out HT.out).mono ?_
  rintro e w2 ⟨rfl, hb2⟩
  have HB2 := Lib.hid (HB1.out.trans (hb2.mono HB1.out.size))
  have HC2 := Lib.hid ((hb2.cell (p := ⟨g, 12, none⟩) hg).trans HC.out)
  have hg2 : g < w2.heap.size := Nat.lt_of_lt_of_le hg hb2.size
  have HL2 := Lib.hid (HL1.out.after hb2)
  clear hb2
  go_wp2_with fail
  refine (up_second _ HL2.out).mono ?_
  rintro e w3 ⟨g2, rfl, hb3, hB⟩
  have HB3 := Lib.hid (HB2.out.trans (hb3.mono HB2.out.size))
  have c12 := (hb3.cell (p := ⟨g, 12, none⟩) hg2).trans HC2.out
  have HBl3 := Lib.hid hB
  have HL3 := Lib.hid (HL2.out.after hb3)
  clear hb3 hB
  go_wp2_with fail
  refine (isSpot_yes g2 0 _ HL3.out HBl3.out).mono ?_
  rintro e w4 ⟨rfl, hb4⟩
  go_wp2
  go_ret
  exact ⟨rfl, HB3.out.trans (hb4.mono HB3.out.size)⟩
end Go.Proofs.YtdeopkjpglkdhaaGreatDoor
