/- The head of layer 7's statements (spinetlaw07.up): it holds. -/
import Derived.Test.YteepfpmeijnkbaaGreatDoorTnw
import Derived.Test.YteepfpmeijnkbaaGreatDoorCup
namespace Go.Proofs.YteepfpmeijnkbaaGreatDoor
open Go.ChangeShapes Go.WideShapes Go.ChangeAt Go.RowKit
set_option linter.unusedVariables false

/-- Up of a state that is in none -/
theorem upRoot_any (g : Nat) (s : Int) (C : Ch) (w : World) (hT : TreeAt w g C) (hl : C.sts.length ≤ 1000) (hR : parT C.sts s = -1) :
    Calls Tryz.prog 17 #[.pointer (some ⟨g, 0, none⟩), .int .i64 s] w fun e w' => e = .returned (.slice none 0 0) ∧ w = w' := by
  have HA := Lib.hid (parent_any g s C w hT hl)
  rw [hR] at HA
  clear hT hR
  go_enter Tryz.func17, Tryz.ntmps17
  go_wp2_with fail
  refine HA.out.mono ?_
  rintro e w1 ⟨rfl, rfl⟩
  go_wp2_with fail
  go_loopw [5, 6] (fun v p wr => v = .slice none 0 0 ∧ p = .int .i64 (-1) ∧ wr = w) (fun _ _ _ => 0)
  case atStart => exact ⟨rfl, rfl, rfl⟩
  case round =>
    obtain ⟨rfl, rfl, rfl⟩ := hrel
    go_wp2_with fail
    go_ret
    exact ⟨rfl, rfl⟩
set_option maxHeartbeats 1000000 in
theorem least_any (w : World) : Calls Tryz.prog 16 #[] w fun e w' => Below w.heap.size w w' ∧ ∃ g, e = .returned (.agg #[.int .i64 0, .slice (some ⟨g, 0, none⟩) 2 2, .slice none 0 0]) ∧ ChHas w' (.slice (some ⟨g, 0, none⟩) 2 2) (.slice none 0 0) ch1 := by
  go_enter Tryz.func16, Tryz.ntmps16
  go_wp2_with fail
  have hk0 := ((Blk.new w 25 #[.int .i64 0, .slice (some ⟨w.heap.size + 1 + 1, 0, none⟩) 2 2, .slice none 0 0]).alloc (.cells #[.int .i64 1] 3)).alloc (stTwo (.slice (some ⟨w.heap.size + 1, 0, none⟩) 1 1))
  have hk1 := (Blk.new_at (w.alloc (chBox 0 (.slice (some ⟨w.heap.size + 1 + 1, 0, none⟩) 2 2) (.slice none 0 0))) 3 #[.int .i64 1] (w.heap.size + 1) (by simp)).alloc (stTwo (.slice (some ⟨w.heap.size + 1, 0, none⟩) 1 1))
  have hk2 := Blk.new_at ((w.alloc (chBox 0 (.slice (some ⟨w.heap.size + 1 + 1, 0, none⟩) 2 2) (.slice none 0 0))).alloc (.cells #[.int .i64 1] 3)) 45 (twoCells (.slice (some ⟨w.heap.size + 1, 0, none⟩) 1 1)) (w.heap.size + 1 + 1) (by simp)
  refine bodyPost_ret (results_own rfl _ _ _ rfl (load_ch hk0)) rfl ?_
  exact ⟨(((Below.refl _ _).alloc (Nat.le_refl _) _).alloc (by simp) _).alloc (by simp; omega) _, _, rfl, up_has hk2 (up_list hk1)⟩
theorem rooted1 : Rooted ch1.sts := rooted_of chk1
theorem below1 : belowN ch1.sts 0 = 2 := by decide +kernel
set_option maxHeartbeats 2000000 in
set_option maxRecDepth 100000 in
theorem upT_any (w : World) (hL : Laid w) : Calls Tryz.prog 5 #[] w fun e w' => e = .returned (.bool true) ∧ Below w.heap.size w w' := by
  have f0 := eqe_large
  have hnn := neq_nil_nil
  have HL := Lib.hid hL
  clear hL
  go_enter Tryz.func5, Tryz.ntmps5
  go_wp2_with fail
  refine (least_any w).mono ?_
  rintro e w1 ⟨hb1, g, rfl, hC⟩
  have HB1 := Lib.hid hb1
  have HN := Lib.hid (new_any _ _ ch1 w1 (HL.out.after hb1) hC few1)
  clear hb1 hC
  go_wp2_with fail
  refine HN.out.mono ?_
  intro e w2 hp
  unfold NPost at hp
  rw [chk1] at hp
  obtain ⟨hb2, t, rfl, _, hT⟩ := hp
  have HB2 := Lib.hid (HB1.out.trans (hb2.mono HB1.out.size))
  have HT := Lib.hid hT
  have HN2 := Lib.hid (new_any (.slice none 0 0) (.slice none 0 0) ch0 w2 (HL.out.after HB2.out) ⟨RowsAt.nil w2, RowsAt.nil w2⟩ few0)
  clear hb2 hT
  go_wp2_with fail
  refine HN2.out.mono ?_
  intro e w3 hp
  unfold NPost at hp
  rw [chk0] at hp
  obtain ⟨hb3, he⟩ := hp
  have he' : e = .returned (.tuple #[.pointer none, .iface 49 (.int .i64 3)]) := he
  subst he'
  have HB3 := Lib.hid (HB2.out.trans (hb3.mono HB2.out.size))
  have HT3 := Lib.hid (HT.out.below hb3)
  clear hb3 he
  go_wp2_with fail
  refine (upRoot_any t 0 ch1 w3 HT3.out (by decide) (by kernel_rfl)).mono ?_
  rintro e w4 ⟨rfl, rfl⟩
  go_wp2_with fail
  refine (inT_any t 1 0 ch1 w3 HT3.out (by decide) rooted1).mono ?_
  rintro e w4 ⟨rfl, rfl⟩
  rw [show cIn ch1.sts 1 0 = true by kernel_rfl]
  go_wp2_with fail
  refine (below_any t 0 ch1 w3 HT3.out (by decide) rooted1).mono ?_
  rintro e w4 ⟨rfl, rfl⟩
  rw [below1]
  go_wp2_with fail
  refine (kindT_any t 1 ch1 w3 HT3.out (by decide)).mono ?_
  rintro e w4 ⟨rfl, rfl⟩
  rw [show kindT ch1.sts 1 = 1 by kernel_rfl]
  go_wp2_with fail
  go_ret
  exact ⟨rfl, HB3.out⟩
end Go.Proofs.YteepfpmeijnkbaaGreatDoor
