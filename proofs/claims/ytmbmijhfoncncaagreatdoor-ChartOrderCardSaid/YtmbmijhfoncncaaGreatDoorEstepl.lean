/- The contract of expr.step at a token that takes none, where the row of kinds is full, or is none yet; and all together. -/
import Derived.Test.YtmbmijhfoncncaaGreatDoorEstep
namespace Go.Proofs.YtmbmijhfoncncaaGreatDoor
open Go.ChangeShapes Go.WideShapes Go.ChangeAt Go.RowKit
set_option linter.unusedVariables false

set_option maxHeartbeats 4000000 in
set_option maxRecDepth 100000 in
theorem step_full (kd x a vars : Int) (B g q : Nat) (ys : List Int) (w : World) (hown : w.ownsRow B 3 1 (.slice (some ⟨g, 0, none⟩) q q) q (intVals ys)) (hy : ys.length = q) (hl : q ≤ 1000) (hr : (rul kd).1 = 0) (hv : (kd == 2) = false ∨ (kd = 2 ∧ x < vars)) (hB : B ≤ w.heap.size) :
    Calls Tryz.prog 54 #[.slice (some ⟨g, 0, none⟩) q q, .agg #[.int .i64 kd, .int .i64 x, .int .i64 a], .int .i64 vars] w (SOk B (.slice (some ⟨g, 0, none⟩) q q) (ys ++ [(rul kd).2.2]) w) := by
  obtain ⟨i0, hi, hz0, hz1, hz2⟩ := info_parts Tryz.info3
  have HI := Lib.hid hi
  have HZ0 := Lib.hid hz0
  have HZ1 := Lib.hid hz1
  have HZ2 := Lib.hid hz2
  clear hi hz0 hz1 hz2
  have HOWN := Lib.hid hown
  have HY := Lib.hid hy
  have HR := Lib.hid (fun W => ruleOf_any kd W)
  have HRC := Lib.hid hr
  have HB1 := Lib.hid ((Below.refl w.heap.size w).alloc (Nat.le_refl _) (.cells #[.int .i64 kd, .int .i64 x, .int .i64 a] 101))
  clear hown hy hr
  generalize (rul kd).1 = rc at *
  generalize (rul kd).2.1 = rk at *
  generalize (rul kd).2.2 = rg at *
  obtain rfl : rc = 0 := HRC.out
  rcases hv with hv | ⟨rfl, hv⟩
  all_goals
    try have hdv : decide (vars ≤ x) = false := by simp; omega
    go_enter Tryz.func54, Tryz.ntmps54
    go_wp2_with fail
    refine (HR.out _).mono ?_
    rintro e w1 ⟨rfl, hb1⟩
    have HX1 := Lib.hid (HB1.out.trans (hb1.mono (by simp)))
    clear hb1
    go_wp2_with fail
    have HT := Lib.hid (fun A cap W => rtks_any 0 rk rg _ [] W (ints_nil W A cap) (fun k h => by cases h) (by simp))
    first
      | (go_region_with (go_at_call 61; refine (HT.out _ _ _).mono ?_; rintro e w2 ⟨rfl, hb2⟩; have HB2 := Lib.hid hb2; clear hb2))
      | fail
    have htk : tks rk [] = true := rfl
    rw [htk]
    clear htk
    have HX2 := Lib.hid ((HX1.out.alloc HX1.out.size _).drew.trans (HB2.out.mono (by simp; have := HX1.out.size; omega)))
    have HO2 := Lib.hid (own_below HOWN.out HX2.out)
    obtain ⟨r0, r1, r2⟩ := ((Blk.new w1 112 #[.int .i64 0, .int .i64 rk, .int .i64 rg]).drewN 1 |>.below HB2.out (by simp)).facts3'
    have hw12 : w1.heap.size < w2.heap.size := by have := HB2.out.size; simp at this; omega
    have hBw : B ≤ w2.heap.size := Nat.le_trans hB HX2.out.size
    have hq1000 : q ≤ 1000 := by omega
    go_wp2_with fail
    go_region_law ((refine step_append_lies _ (by rfl) _ _ _ (by rfl) B 3 i0 _ 1 8 Tryz.underlying29 HI.out HZ0.out HZ1.out HZ2.out rfl (by omega) (.slice (some ⟨g, 0, none⟩) q q) q (intVals ys) (by rfl) ((HO2.out.alloc _).drew) ⟨w2.heap.size, 0, none⟩ 1 1 [.int .i64 rg] (by rfl) (by rfl) (World.news_of_block (cs := #[.int .i64 rg]) (t := 3) (fr := (0, 0)) (heap_alloc_new w2 _)) (int_one rg) (by omega) (by unfold maxLen; omega) (by omega) (by simp; omega) (w2.heap.size + 1) (by simp) ?_; intro gg cap1 w3 hown1 hgrow hat hlt))
    all_goals
      have HG := Lib.hid (grown_after (HX2.out.alloc HX2.out.size _).drew hgrow)
      have HO := Lib.hid hown1
      have HAT := Lib.hid (show (Value.slice (some ⟨g, 0, none⟩) q q).ownBlock = some gg ∨ w.heap.size ≤ gg by
        rcases hat with h | h
        · exact .inl h
        · right; have := HX2.out.size; omega)
      have HLT := Lib.hid hlt
      clear hown1 hgrow hat hlt
      go_wp2_with fail
      go_ret2
      refine ⟨gg, cap1, ?_, HG.out, ?_, HAT.out, HLT.out⟩
      · rw [List.length_append, HY.out]; rfl
      · rw [intVals_app, List.length_append, HY.out]; exact HO.out
set_option maxHeartbeats 4000000 in
set_option maxRecDepth 100000 in
theorem step_nil (kd x a vars : Int) (B : Nat) (w : World)  (hr : (rul kd).1 = 0) (hv : (kd == 2) = false ∨ (kd = 2 ∧ x < vars)) (hB : B ≤ w.heap.size) :
    Calls Tryz.prog 54 #[.slice none 0 0, .agg #[.int .i64 kd, .int .i64 x, .int .i64 a], .int .i64 vars] w (SOk B (.slice none 0 0) ([(rul kd).2.2]) w) := by
  obtain ⟨i0, hi, hz0, hz1, hz2⟩ := info_parts Tryz.info3
  have HI := Lib.hid hi
  have HZ0 := Lib.hid hz0
  have HZ1 := Lib.hid hz1
  have HZ2 := Lib.hid hz2
  clear hi hz0 hz1 hz2
  have HR := Lib.hid (fun W => ruleOf_any kd W)
  have HRC := Lib.hid hr
  have HB1 := Lib.hid ((Below.refl w.heap.size w).alloc (Nat.le_refl _) (.cells #[.int .i64 kd, .int .i64 x, .int .i64 a] 101))
  clear hr
  generalize (rul kd).1 = rc at *
  generalize (rul kd).2.1 = rk at *
  generalize (rul kd).2.2 = rg at *
  obtain rfl : rc = 0 := HRC.out
  rcases hv with hv | ⟨rfl, hv⟩
  all_goals
    try have hdv : decide (vars ≤ x) = false := by simp; omega
    go_enter Tryz.func54, Tryz.ntmps54
    go_wp2_with fail
    refine (HR.out _).mono ?_
    rintro e w1 ⟨rfl, hb1⟩
    have HX1 := Lib.hid (HB1.out.trans (hb1.mono (by simp)))
    clear hb1
    go_wp2_with fail
    have HT := Lib.hid (fun A cap W => rtks_any 0 rk rg _ [] W (ints_nil W A cap) (fun k h => by cases h) (by simp))
    first
      | (go_region_with (go_at_call 61; refine (HT.out _ _ _).mono ?_; rintro e w2 ⟨rfl, hb2⟩; have HB2 := Lib.hid hb2; clear hb2))
      | fail
    have htk : tks rk [] = true := rfl
    rw [htk]
    clear htk
    have HX2 := Lib.hid ((HX1.out.alloc HX1.out.size _).drew.trans (HB2.out.mono (by simp; have := HX1.out.size; omega)))
    have HO2 := Lib.hid (World.ownsRow_nil w2 B 3 1)
    obtain ⟨r0, r1, r2⟩ := ((Blk.new w1 112 #[.int .i64 0, .int .i64 rk, .int .i64 rg]).drewN 1 |>.below HB2.out (by simp)).facts3'
    have hw12 : w1.heap.size < w2.heap.size := by have := HB2.out.size; simp at this; omega
    have hBw : B ≤ w2.heap.size := Nat.le_trans hB HX2.out.size
    go_wp2_with fail
    go_region_law ((refine step_append_lies _ (by rfl) _ _ _ (by rfl) B 3 i0 _ 1 8 Tryz.underlying29 HI.out HZ0.out HZ1.out HZ2.out rfl (by omega) (.slice none 0 0) 0 [] (by rfl) ((HO2.out.alloc _).drew) ⟨w2.heap.size, 0, none⟩ 1 1 [.int .i64 rg] (by rfl) (by rfl) (World.news_of_block (cs := #[.int .i64 rg]) (t := 3) (fr := (0, 0)) (heap_alloc_new w2 _)) (int_one rg) (by omega) (by unfold maxLen; omega) (by omega) (by simp; omega) (w2.heap.size + 1) (by simp) ?_; intro gg cap1 w3 hown1 hgrow hat hlt))
    all_goals
      have HG := Lib.hid (grown_after (HX2.out.alloc HX2.out.size _).drew hgrow)
      have HO := Lib.hid hown1
      have HAT := Lib.hid (show (Value.slice none 0 0).ownBlock = some gg ∨ w.heap.size ≤ gg by
        rcases hat with h | h
        · exact .inl h
        · right; have := HX2.out.size; omega)
      have HLT := Lib.hid hlt
      clear hown1 hgrow hat hlt
      go_wp2_with fail
      go_ret2
      refine ⟨gg, cap1, ?_, HG.out, ?_, HAT.out, HLT.out⟩
      · rfl
      · exact HO.out
end Go.Proofs.YtmbmijhfoncncaaGreatDoor
