/- The contracts of the document's small functions for layer 4: whole, truth, two. -/
import Derived.Test.YtafcbgapllkghaaGreatDoorErul
namespace Go.Proofs.YtafcbgapllkghaaGreatDoor
open Go.ChangeShapes Go.WideShapes Go.ChangeAt Go.RowKit
set_option linter.unusedVariables false

/-- a Value of the document's -/
def valOf : Vl → Value
  | .ok k n => .agg #[.int .i64 k, .int .i64 n, .int .i64 0]
  | .bad c => .agg #[.int .i64 0, .int .i64 0, .int .i64 c]
theorem results_val {fn : Func} {r : Tmp} (hr : fn.results = #[.cell r 71]) (tmps : Array Value) (w : World) (g : Nat) (a b c : Value)
    (hp : tmps.getD r undef = .pointer (some ⟨g, 0, none⟩)) (hB : Blk w g 71 #[a, b, c]) :
    (results fn tmps).run Tryz.prog w = .ok (.agg #[a, b, c]) w := by
  have c0 := hB.cell 0
  have c1 := hB.cell 1
  have c2 := hB.cell 2
  simp at c0 c1 c2 hp
  simp [results, hr, hp, go_sem, c0, c1, c2]
theorem whole_val (n : Int) (w : World) : Calls Tryz.prog 38 #[.int .i64 n] w fun e w' => e = .returned (.agg #[.int .i64 1, .int .i64 n, .int .i64 0]) ∧ Below w.heap.size w w' := by
  go_enter Tryz.func38, Tryz.ntmps38
  go_wp2
  refine bodyPost_ret (results_val Tryz.results38 _ _ w.heap.size _ _ _ (by rfl) (Blk.new w 71 _)) rfl ⟨rfl, (Below.refl _ _).alloc (Nat.le_refl _) _⟩
theorem truth_val (b : Bool) (w : World) : Calls Tryz.prog 39 #[.bool b] w fun e w' => e = .returned (.agg #[.int .i64 2, .int .i64 (truN b), .int .i64 0]) ∧ Below w.heap.size w w' := by
  cases b
  all_goals
    go_enter Tryz.func39, Tryz.ntmps39
    go_wp2
    refine bodyPost_ret (results_val Tryz.results39 _ _ w.heap.size _ _ _ (by rfl) (Blk.new w 71 _)) rfl ⟨rfl, (Below.refl _ _).alloc (Nat.le_refl _) _⟩
theorem ret_val {v : Vl} {a b c : Int} (h : valOf v = .agg #[.int .i64 a, .int .i64 b, .int .i64 c]) : Ending.returned (.agg #[.int .i64 a, .int .i64 b, .int .i64 c]) = .returned (valOf v) := by rw [h]
theorem two_ne {kd ak an bk bn : Int} (h : ak ≠ bk) : twoV kd ak an bk bn = .bad 8 := by unfold twoV; rw [if_pos h]
def W2 (w : World) (ak an bk bn : Int) : World := (w.alloc (.cells #[.int .i64 ak, .int .i64 an] 43)).alloc (.cells #[.int .i64 bk, .int .i64 bn] 43)
theorem w2_size (w : World) (ak an bk bn : Int) : (W2 w ak an bk bn).heap.size = w.heap.size + 1 + 1 := by simp [W2]
theorem w2_below (w : World) (ak an bk bn : Int) : Below w.heap.size w (W2 w ak an bk bn) := ((Below.refl w.heap.size w).alloc (Nat.le_refl _) _).alloc (by simp) _
set_option maxHeartbeats 2000000 in
set_option maxRecDepth 100000 in
theorem two_diff (kd ak an bk bn : Int) (w : World) (h : ak ≠ bk) : Calls Tryz.prog 41 #[.int .i64 kd, .agg #[.int .i64 ak, .int .i64 an], .agg #[.int .i64 bk, .int .i64 bn]] w fun e w' => e = .returned (valOf (twoV kd ak an bk bn)) ∧ Below w.heap.size w w' := by
  have h1 : (ak != bk) = true := by simpa using h
  have h2 : (ak == bk) = false := by simpa using h
  have HT := Lib.hid (two_ne (kd := kd) (an := an) (bn := bn) h)
  clear h
  have HB := Lib.hid (w2_below w ak an bk bn)
  go_enter Tryz.func41, Tryz.ntmps41
  go_wp2
  refine bodyPost_ret (results_val Tryz.results41 _ _ (w.heap.size + 1 + 1) _ _ _ (by rfl) (Blk.new_at _ 71 _ _ (by simp))) rfl ⟨ret_val (by rw [HT.out]; rfl), HB.out.alloc HB.out.size _⟩
set_option maxHeartbeats 4000000 in
set_option maxRecDepth 100000 in
theorem two_10 (k an bn : Int) (w : World) : Calls Tryz.prog 41 #[.int .i64 10, .agg #[.int .i64 k, .int .i64 an], .agg #[.int .i64 k, .int .i64 bn]] w fun e w' => e = .returned (valOf (twoV 10 k an k bn)) ∧ Below w.heap.size w w' := by
  have h1 : (k != k) = false := by simp
  have h2 : (k == k) = true := by simp
  have HB := Lib.hid ((w2_below w k an k bn).alloc (w2_below w k an k bn).size (.cells #[.int .i64 0, .int .i64 0, .int .i64 0] 71))
  have HL := Lib.hid (Blk.new_at (W2 w k an k bn) 71 #[.int .i64 0, .int .i64 0, .int .i64 0] (w.heap.size + 1 + 1) (w2_size w k an k bn))
  go_enter Tryz.func41, Tryz.ntmps41
  go_wp2_with fail
  refine (truth_val _ _).mono ?_
  rintro e w1 ⟨rfl, hb1⟩
  have HX := Lib.hid (HB.out.trans (hb1.mono HB.out.size))
  have HC := Lib.hid (HL.out.below hb1 HL.out.lt)
  obtain ⟨⟨c0, c1, c2⟩, f0, f1, f2⟩ := HC.out.facts3
  clear hb1
  go_wp2_with fail
  refine bodyPost_ret (results_val Tryz.results41 _ _ (w.heap.size + 1 + 1) _ _ _ (by rfl) (HC.out.set3 _ _ _)) rfl ⟨ret_val (by simp [twoV, tru, valOf]; rfl), ((HX.out.setCell (by simp; omega) _).setCell (by simp; omega) _).setCell (by simp; omega) _⟩
set_option maxHeartbeats 4000000 in
set_option maxRecDepth 100000 in
theorem two_11 (k an bn : Int) (w : World) : Calls Tryz.prog 41 #[.int .i64 11, .agg #[.int .i64 k, .int .i64 an], .agg #[.int .i64 k, .int .i64 bn]] w fun e w' => e = .returned (valOf (twoV 11 k an k bn)) ∧ Below w.heap.size w w' := by
  have h1 : (k != k) = false := by simp
  have h2 : (k == k) = true := by simp
  have HB := Lib.hid ((w2_below w k an k bn).alloc (w2_below w k an k bn).size (.cells #[.int .i64 0, .int .i64 0, .int .i64 0] 71))
  have HL := Lib.hid (Blk.new_at (W2 w k an k bn) 71 #[.int .i64 0, .int .i64 0, .int .i64 0] (w.heap.size + 1 + 1) (w2_size w k an k bn))
  go_enter Tryz.func41, Tryz.ntmps41
  go_wp2_with fail
  refine (truth_val _ _).mono ?_
  rintro e w1 ⟨rfl, hb1⟩
  have HX := Lib.hid (HB.out.trans (hb1.mono HB.out.size))
  have HC := Lib.hid (HL.out.below hb1 HL.out.lt)
  obtain ⟨⟨c0, c1, c2⟩, f0, f1, f2⟩ := HC.out.facts3
  clear hb1
  go_wp2_with fail
  refine bodyPost_ret (results_val Tryz.results41 _ _ (w.heap.size + 1 + 1) _ _ _ (by rfl) (HC.out.set3 _ _ _)) rfl ⟨ret_val (by simp [twoV, tru, valOf]; rfl), ((HX.out.setCell (by simp; omega) _).setCell (by simp; omega) _).setCell (by simp; omega) _⟩
set_option maxHeartbeats 4000000 in
set_option maxRecDepth 100000 in
theorem two_3 (an bn : Int) (w : World) : Calls Tryz.prog 41 #[.int .i64 3, .agg #[.int .i64 1, .int .i64 an], .agg #[.int .i64 1, .int .i64 bn]] w fun e w' => e = .returned (valOf (twoV 3 1 an 1 bn)) ∧ Below w.heap.size w w' := by
  have HB := Lib.hid ((w2_below w 1 an 1 bn).alloc (w2_below w 1 an 1 bn).size (.cells #[.int .i64 0, .int .i64 0, .int .i64 0] 71))
  have HL := Lib.hid (Blk.new_at (W2 w 1 an 1 bn) 71 #[.int .i64 0, .int .i64 0, .int .i64 0] (w.heap.size + 1 + 1) (w2_size w 1 an 1 bn))
  go_enter Tryz.func41, Tryz.ntmps41
  go_wp2_with fail
  refine (radd_any an bn _).mono ?_
  rintro e w' ⟨rfl, rfl⟩
  go_wp2_with fail
  refine (whole_val _ _).mono ?_
  rintro e w1 ⟨rfl, hb1⟩
  have HX := Lib.hid (HB.out.trans (hb1.mono HB.out.size))
  have HC := Lib.hid (HL.out.below hb1 HL.out.lt)
  obtain ⟨⟨c0, c1, c2⟩, f0, f1, f2⟩ := HC.out.facts3
  clear hb1
  go_wp2_with fail
  refine bodyPost_ret (results_val Tryz.results41 _ _ (w.heap.size + 1 + 1) _ _ _ (by rfl) (HC.out.set3 _ _ _)) rfl ⟨ret_val (by simp [twoV, valOf]), ((HX.out.setCell (by simp; omega) _).setCell (by simp; omega) _).setCell (by simp; omega) _⟩
set_option maxHeartbeats 4000000 in
set_option maxRecDepth 100000 in
theorem two_4 (an bn : Int) (w : World) : Calls Tryz.prog 41 #[.int .i64 4, .agg #[.int .i64 1, .int .i64 an], .agg #[.int .i64 1, .int .i64 bn]] w fun e w' => e = .returned (valOf (twoV 4 1 an 1 bn)) ∧ Below w.heap.size w w' := by
  have HB := Lib.hid ((w2_below w 1 an 1 bn).alloc (w2_below w 1 an 1 bn).size (.cells #[.int .i64 0, .int .i64 0, .int .i64 0] 71))
  have HL := Lib.hid (Blk.new_at (W2 w 1 an 1 bn) 71 #[.int .i64 0, .int .i64 0, .int .i64 0] (w.heap.size + 1 + 1) (w2_size w 1 an 1 bn))
  go_enter Tryz.func41, Tryz.ntmps41
  go_wp2_with fail
  refine (rsub_any an bn _).mono ?_
  rintro e w' ⟨rfl, rfl⟩
  go_wp2_with fail
  refine (whole_val _ _).mono ?_
  rintro e w1 ⟨rfl, hb1⟩
  have HX := Lib.hid (HB.out.trans (hb1.mono HB.out.size))
  have HC := Lib.hid (HL.out.below hb1 HL.out.lt)
  obtain ⟨⟨c0, c1, c2⟩, f0, f1, f2⟩ := HC.out.facts3
  clear hb1
  go_wp2_with fail
  refine bodyPost_ret (results_val Tryz.results41 _ _ (w.heap.size + 1 + 1) _ _ _ (by rfl) (HC.out.set3 _ _ _)) rfl ⟨ret_val (by simp [twoV, valOf]), ((HX.out.setCell (by simp; omega) _).setCell (by simp; omega) _).setCell (by simp; omega) _⟩
set_option maxHeartbeats 4000000 in
set_option maxRecDepth 100000 in
theorem two_5 (an bn : Int) (w : World) : Calls Tryz.prog 41 #[.int .i64 5, .agg #[.int .i64 1, .int .i64 an], .agg #[.int .i64 1, .int .i64 bn]] w fun e w' => e = .returned (valOf (twoV 5 1 an 1 bn)) ∧ Below w.heap.size w w' := by
  have HB := Lib.hid ((w2_below w 1 an 1 bn).alloc (w2_below w 1 an 1 bn).size (.cells #[.int .i64 0, .int .i64 0, .int .i64 0] 71))
  have HL := Lib.hid (Blk.new_at (W2 w 1 an 1 bn) 71 #[.int .i64 0, .int .i64 0, .int .i64 0] (w.heap.size + 1 + 1) (w2_size w 1 an 1 bn))
  go_enter Tryz.func41, Tryz.ntmps41
  go_wp2_with fail
  refine (rmul_any an bn _).mono ?_
  rintro e w' ⟨rfl, rfl⟩
  go_wp2_with fail
  refine (whole_val _ _).mono ?_
  rintro e w1 ⟨rfl, hb1⟩
  have HX := Lib.hid (HB.out.trans (hb1.mono HB.out.size))
  have HC := Lib.hid (HL.out.below hb1 HL.out.lt)
  obtain ⟨⟨c0, c1, c2⟩, f0, f1, f2⟩ := HC.out.facts3
  clear hb1
  go_wp2_with fail
  refine bodyPost_ret (results_val Tryz.results41 _ _ (w.heap.size + 1 + 1) _ _ _ (by rfl) (HC.out.set3 _ _ _)) rfl ⟨ret_val (by simp [twoV, valOf]), ((HX.out.setCell (by simp; omega) _).setCell (by simp; omega) _).setCell (by simp; omega) _⟩
set_option maxHeartbeats 4000000 in
set_option maxRecDepth 100000 in
theorem two_6 (an bn : Int) (w : World) (hy : ¬ bn = 0) (ha : F64 an) (hb : F64 bn) : Calls Tryz.prog 41 #[.int .i64 6, .agg #[.int .i64 1, .int .i64 an], .agg #[.int .i64 1, .int .i64 bn]] w fun e w' => e = .returned (valOf (twoV 6 1 an 1 bn)) ∧ Below w.heap.size w w' := by
  have hy2 : (bn == 0) = false := by simpa using hy
  have HY := Lib.hid hy
  have HFA := Lib.hid ha
  have HFB := Lib.hid hb
  clear hy ha hb
  have HB := Lib.hid ((w2_below w 1 an 1 bn).alloc (w2_below w 1 an 1 bn).size (.cells #[.int .i64 0, .int .i64 0, .int .i64 0] 71))
  have HL := Lib.hid (Blk.new_at (W2 w 1 an 1 bn) 71 #[.int .i64 0, .int .i64 0, .int .i64 0] (w.heap.size + 1 + 1) (w2_size w 1 an 1 bn))
  go_enter Tryz.func41, Tryz.ntmps41
  go_wp2_with fail
  refine (rdiv_any an bn _ HY.out HFA.out HFB.out).mono ?_
  rintro e w' ⟨rfl, rfl⟩
  go_wp2_with fail
  refine (whole_val _ _).mono ?_
  rintro e w1 ⟨rfl, hb1⟩
  have HX := Lib.hid (HB.out.trans (hb1.mono HB.out.size))
  have HC := Lib.hid (HL.out.below hb1 HL.out.lt)
  obtain ⟨⟨c0, c1, c2⟩, f0, f1, f2⟩ := HC.out.facts3
  clear hb1
  go_wp2_with fail
  refine bodyPost_ret (results_val Tryz.results41 _ _ (w.heap.size + 1 + 1) _ _ _ (by rfl) (HC.out.set3 _ _ _)) rfl ⟨ret_val (by simp [twoV, valOf, HY.out]), ((HX.out.setCell (by simp; omega) _).setCell (by simp; omega) _).setCell (by simp; omega) _⟩
set_option maxHeartbeats 4000000 in
set_option maxRecDepth 100000 in
theorem two_6z (an : Int) (w : World) : Calls Tryz.prog 41 #[.int .i64 6, .agg #[.int .i64 1, .int .i64 an], .agg #[.int .i64 1, .int .i64 0]] w fun e w' => e = .returned (valOf (twoV 6 1 an 1 0)) ∧ Below w.heap.size w w' := by
  have HB := Lib.hid (w2_below w 1 an 1 0)
  go_enter Tryz.func41, Tryz.ntmps41
  go_wp2
  refine bodyPost_ret (results_val Tryz.results41 _ _ (w.heap.size + 1 + 1) _ _ _ (by rfl) (Blk.new_at _ 71 _ _ (by simp))) rfl ⟨ret_val (by simp [twoV, valOf]), HB.out.alloc HB.out.size _⟩
set_option maxHeartbeats 4000000 in
set_option maxRecDepth 100000 in
theorem two_7 (an bn : Int) (w : World) (hy : ¬ bn = 0) (ha : F64 an) (hb : F64 bn) : Calls Tryz.prog 41 #[.int .i64 7, .agg #[.int .i64 1, .int .i64 an], .agg #[.int .i64 1, .int .i64 bn]] w fun e w' => e = .returned (valOf (twoV 7 1 an 1 bn)) ∧ Below w.heap.size w w' := by
  have hy2 : (bn == 0) = false := by simpa using hy
  have HY := Lib.hid hy
  have HFA := Lib.hid ha
  have HFB := Lib.hid hb
  clear hy ha hb
  have HB := Lib.hid ((w2_below w 1 an 1 bn).alloc (w2_below w 1 an 1 bn).size (.cells #[.int .i64 0, .int .i64 0, .int .i64 0] 71))
  have HL := Lib.hid (Blk.new_at (W2 w 1 an 1 bn) 71 #[.int .i64 0, .int .i64 0, .int .i64 0] (w.heap.size + 1 + 1) (w2_size w 1 an 1 bn))
  go_enter Tryz.func41, Tryz.ntmps41
  go_wp2_with fail
  refine (rmod_any an bn _ HY.out HFA.out HFB.out).mono ?_
  rintro e w' ⟨rfl, rfl⟩
  go_wp2_with fail
  refine (whole_val _ _).mono ?_
  rintro e w1 ⟨rfl, hb1⟩
  have HX := Lib.hid (HB.out.trans (hb1.mono HB.out.size))
  have HC := Lib.hid (HL.out.below hb1 HL.out.lt)
  obtain ⟨⟨c0, c1, c2⟩, f0, f1, f2⟩ := HC.out.facts3
  clear hb1
  go_wp2_with fail
  refine bodyPost_ret (results_val Tryz.results41 _ _ (w.heap.size + 1 + 1) _ _ _ (by rfl) (HC.out.set3 _ _ _)) rfl ⟨ret_val (by simp [twoV, valOf, HY.out]), ((HX.out.setCell (by simp; omega) _).setCell (by simp; omega) _).setCell (by simp; omega) _⟩
set_option maxHeartbeats 4000000 in
set_option maxRecDepth 100000 in
theorem two_7z (an : Int) (w : World) : Calls Tryz.prog 41 #[.int .i64 7, .agg #[.int .i64 1, .int .i64 an], .agg #[.int .i64 1, .int .i64 0]] w fun e w' => e = .returned (valOf (twoV 7 1 an 1 0)) ∧ Below w.heap.size w w' := by
  have HB := Lib.hid (w2_below w 1 an 1 0)
  go_enter Tryz.func41, Tryz.ntmps41
  go_wp2
  refine bodyPost_ret (results_val Tryz.results41 _ _ (w.heap.size + 1 + 1) _ _ _ (by rfl) (Blk.new_at _ 71 _ _ (by simp))) rfl ⟨ret_val (by simp [twoV, valOf]), HB.out.alloc HB.out.size _⟩
set_option maxHeartbeats 4000000 in
set_option maxRecDepth 100000 in
theorem two_8 (an bn : Int) (w : World) : Calls Tryz.prog 41 #[.int .i64 8, .agg #[.int .i64 1, .int .i64 an], .agg #[.int .i64 1, .int .i64 bn]] w fun e w' => e = .returned (valOf (twoV 8 1 an 1 bn)) ∧ Below w.heap.size w w' := by
  have HB := Lib.hid ((w2_below w 1 an 1 bn).alloc (w2_below w 1 an 1 bn).size (.cells #[.int .i64 0, .int .i64 0, .int .i64 0] 71))
  have HL := Lib.hid (Blk.new_at (W2 w 1 an 1 bn) 71 #[.int .i64 0, .int .i64 0, .int .i64 0] (w.heap.size + 1 + 1) (w2_size w 1 an 1 bn))
  go_enter Tryz.func41, Tryz.ntmps41
  go_wp2_with fail
  refine (truth_val _ _).mono ?_
  rintro e w1 ⟨rfl, hb1⟩
  have HX := Lib.hid (HB.out.trans (hb1.mono HB.out.size))
  have HC := Lib.hid (HL.out.below hb1 HL.out.lt)
  obtain ⟨⟨c0, c1, c2⟩, f0, f1, f2⟩ := HC.out.facts3
  clear hb1
  go_wp2_with fail
  refine bodyPost_ret (results_val Tryz.results41 _ _ (w.heap.size + 1 + 1) _ _ _ (by rfl) (HC.out.set3 _ _ _)) rfl ⟨ret_val (by simp [twoV, tru, valOf]), ((HX.out.setCell (by simp; omega) _).setCell (by simp; omega) _).setCell (by simp; omega) _⟩
set_option maxHeartbeats 4000000 in
set_option maxRecDepth 100000 in
theorem two_9 (an bn : Int) (w : World) : Calls Tryz.prog 41 #[.int .i64 9, .agg #[.int .i64 1, .int .i64 an], .agg #[.int .i64 1, .int .i64 bn]] w fun e w' => e = .returned (valOf (twoV 9 1 an 1 bn)) ∧ Below w.heap.size w w' := by
  have HB := Lib.hid ((w2_below w 1 an 1 bn).alloc (w2_below w 1 an 1 bn).size (.cells #[.int .i64 0, .int .i64 0, .int .i64 0] 71))
  have HL := Lib.hid (Blk.new_at (W2 w 1 an 1 bn) 71 #[.int .i64 0, .int .i64 0, .int .i64 0] (w.heap.size + 1 + 1) (w2_size w 1 an 1 bn))
  go_enter Tryz.func41, Tryz.ntmps41
  go_wp2_with fail
  refine (truth_val _ _).mono ?_
  rintro e w1 ⟨rfl, hb1⟩
  have HX := Lib.hid (HB.out.trans (hb1.mono HB.out.size))
  have HC := Lib.hid (HL.out.below hb1 HL.out.lt)
  obtain ⟨⟨c0, c1, c2⟩, f0, f1, f2⟩ := HC.out.facts3
  clear hb1
  go_wp2_with fail
  refine bodyPost_ret (results_val Tryz.results41 _ _ (w.heap.size + 1 + 1) _ _ _ (by rfl) (HC.out.set3 _ _ _)) rfl ⟨ret_val (by simp [twoV, tru, valOf]), ((HX.out.setCell (by simp; omega) _).setCell (by simp; omega) _).setCell (by simp; omega) _⟩
set_option maxHeartbeats 4000000 in
set_option maxRecDepth 100000 in
theorem two_12n (an bn : Int) (w : World) : Calls Tryz.prog 41 #[.int .i64 12, .agg #[.int .i64 1, .int .i64 an], .agg #[.int .i64 1, .int .i64 bn]] w fun e w' => e = .returned (valOf (twoV 12 1 an 1 bn)) ∧ Below w.heap.size w w' := by
  have HB := Lib.hid (w2_below w 1 an 1 bn)
  go_enter Tryz.func41, Tryz.ntmps41
  go_wp2
  refine bodyPost_ret (results_val Tryz.results41 _ _ (w.heap.size + 1 + 1) _ _ _ (by rfl) (Blk.new_at _ 71 _ _ (by simp))) rfl ⟨ret_val (by simp [twoV, valOf]), HB.out.alloc HB.out.size _⟩
set_option maxHeartbeats 4000000 in
set_option maxRecDepth 100000 in
theorem two_13n (an bn : Int) (w : World) : Calls Tryz.prog 41 #[.int .i64 13, .agg #[.int .i64 1, .int .i64 an], .agg #[.int .i64 1, .int .i64 bn]] w fun e w' => e = .returned (valOf (twoV 13 1 an 1 bn)) ∧ Below w.heap.size w w' := by
  have HB := Lib.hid (w2_below w 1 an 1 bn)
  go_enter Tryz.func41, Tryz.ntmps41
  go_wp2
  refine bodyPost_ret (results_val Tryz.results41 _ _ (w.heap.size + 1 + 1) _ _ _ (by rfl) (Blk.new_at _ 71 _ _ (by simp))) rfl ⟨ret_val (by simp [twoV, valOf]), HB.out.alloc HB.out.size _⟩
set_option maxHeartbeats 4000000 in
set_option maxRecDepth 100000 in
theorem two_3t (an bn : Int) (w : World) : Calls Tryz.prog 41 #[.int .i64 3, .agg #[.int .i64 2, .int .i64 an], .agg #[.int .i64 2, .int .i64 bn]] w fun e w' => e = .returned (valOf (twoV 3 2 an 2 bn)) ∧ Below w.heap.size w w' := by
  have HB := Lib.hid (w2_below w 2 an 2 bn)
  go_enter Tryz.func41, Tryz.ntmps41
  go_wp2
  refine bodyPost_ret (results_val Tryz.results41 _ _ (w.heap.size + 1 + 1) _ _ _ (by rfl) (Blk.new_at _ 71 _ _ (by simp))) rfl ⟨ret_val (by simp [twoV, valOf]), HB.out.alloc HB.out.size _⟩
set_option maxHeartbeats 4000000 in
set_option maxRecDepth 100000 in
theorem two_4t (an bn : Int) (w : World) : Calls Tryz.prog 41 #[.int .i64 4, .agg #[.int .i64 2, .int .i64 an], .agg #[.int .i64 2, .int .i64 bn]] w fun e w' => e = .returned (valOf (twoV 4 2 an 2 bn)) ∧ Below w.heap.size w w' := by
  have HB := Lib.hid (w2_below w 2 an 2 bn)
  go_enter Tryz.func41, Tryz.ntmps41
  go_wp2
  refine bodyPost_ret (results_val Tryz.results41 _ _ (w.heap.size + 1 + 1) _ _ _ (by rfl) (Blk.new_at _ 71 _ _ (by simp))) rfl ⟨ret_val (by simp [twoV, valOf]), HB.out.alloc HB.out.size _⟩
set_option maxHeartbeats 4000000 in
set_option maxRecDepth 100000 in
theorem two_5t (an bn : Int) (w : World) : Calls Tryz.prog 41 #[.int .i64 5, .agg #[.int .i64 2, .int .i64 an], .agg #[.int .i64 2, .int .i64 bn]] w fun e w' => e = .returned (valOf (twoV 5 2 an 2 bn)) ∧ Below w.heap.size w w' := by
  have HB := Lib.hid (w2_below w 2 an 2 bn)
  go_enter Tryz.func41, Tryz.ntmps41
  go_wp2
  refine bodyPost_ret (results_val Tryz.results41 _ _ (w.heap.size + 1 + 1) _ _ _ (by rfl) (Blk.new_at _ 71 _ _ (by simp))) rfl ⟨ret_val (by simp [twoV, valOf]), HB.out.alloc HB.out.size _⟩
set_option maxHeartbeats 4000000 in
set_option maxRecDepth 100000 in
theorem two_6t (an bn : Int) (w : World) : Calls Tryz.prog 41 #[.int .i64 6, .agg #[.int .i64 2, .int .i64 an], .agg #[.int .i64 2, .int .i64 bn]] w fun e w' => e = .returned (valOf (twoV 6 2 an 2 bn)) ∧ Below w.heap.size w w' := by
  have HB := Lib.hid (w2_below w 2 an 2 bn)
  go_enter Tryz.func41, Tryz.ntmps41
  go_wp2
  refine bodyPost_ret (results_val Tryz.results41 _ _ (w.heap.size + 1 + 1) _ _ _ (by rfl) (Blk.new_at _ 71 _ _ (by simp))) rfl ⟨ret_val (by simp [twoV, valOf]), HB.out.alloc HB.out.size _⟩
set_option maxHeartbeats 4000000 in
set_option maxRecDepth 100000 in
theorem two_7t (an bn : Int) (w : World) : Calls Tryz.prog 41 #[.int .i64 7, .agg #[.int .i64 2, .int .i64 an], .agg #[.int .i64 2, .int .i64 bn]] w fun e w' => e = .returned (valOf (twoV 7 2 an 2 bn)) ∧ Below w.heap.size w w' := by
  have HB := Lib.hid (w2_below w 2 an 2 bn)
  go_enter Tryz.func41, Tryz.ntmps41
  go_wp2
  refine bodyPost_ret (results_val Tryz.results41 _ _ (w.heap.size + 1 + 1) _ _ _ (by rfl) (Blk.new_at _ 71 _ _ (by simp))) rfl ⟨ret_val (by simp [twoV, valOf]), HB.out.alloc HB.out.size _⟩
set_option maxHeartbeats 4000000 in
set_option maxRecDepth 100000 in
theorem two_8t (an bn : Int) (w : World) : Calls Tryz.prog 41 #[.int .i64 8, .agg #[.int .i64 2, .int .i64 an], .agg #[.int .i64 2, .int .i64 bn]] w fun e w' => e = .returned (valOf (twoV 8 2 an 2 bn)) ∧ Below w.heap.size w w' := by
  have HB := Lib.hid (w2_below w 2 an 2 bn)
  go_enter Tryz.func41, Tryz.ntmps41
  go_wp2
  refine bodyPost_ret (results_val Tryz.results41 _ _ (w.heap.size + 1 + 1) _ _ _ (by rfl) (Blk.new_at _ 71 _ _ (by simp))) rfl ⟨ret_val (by simp [twoV, valOf]), HB.out.alloc HB.out.size _⟩
set_option maxHeartbeats 4000000 in
set_option maxRecDepth 100000 in
theorem two_9t (an bn : Int) (w : World) : Calls Tryz.prog 41 #[.int .i64 9, .agg #[.int .i64 2, .int .i64 an], .agg #[.int .i64 2, .int .i64 bn]] w fun e w' => e = .returned (valOf (twoV 9 2 an 2 bn)) ∧ Below w.heap.size w w' := by
  have HB := Lib.hid (w2_below w 2 an 2 bn)
  go_enter Tryz.func41, Tryz.ntmps41
  go_wp2
  refine bodyPost_ret (results_val Tryz.results41 _ _ (w.heap.size + 1 + 1) _ _ _ (by rfl) (Blk.new_at _ 71 _ _ (by simp))) rfl ⟨ret_val (by simp [twoV, valOf]), HB.out.alloc HB.out.size _⟩
set_option maxHeartbeats 4000000 in
set_option maxRecDepth 100000 in
theorem two_12p (an bn : Int) (w : World) (h : an = 1) : Calls Tryz.prog 41 #[.int .i64 12, .agg #[.int .i64 2, .int .i64 an], .agg #[.int .i64 2, .int .i64 bn]] w fun e w' => e = .returned (valOf (twoV 12 2 an 2 bn)) ∧ Below w.heap.size w w' := by
  have hy2 : (an == 1) = true := by simpa using h
  have HY := Lib.hid h
  clear h
  have HB := Lib.hid ((w2_below w 2 an 2 bn).alloc (w2_below w 2 an 2 bn).size (.cells #[.int .i64 0, .int .i64 0, .int .i64 0] 71))
  have HL := Lib.hid (Blk.new_at (W2 w 2 an 2 bn) 71 #[.int .i64 0, .int .i64 0, .int .i64 0] (w.heap.size + 1 + 1) (w2_size w 2 an 2 bn))
  go_enter Tryz.func41, Tryz.ntmps41
  go_wp2_with fail
  refine (truth_val _ _).mono ?_
  rintro e w1 ⟨rfl, hb1⟩
  have HX := Lib.hid (HB.out.trans (hb1.mono HB.out.size))
  have HC := Lib.hid (HL.out.below hb1 HL.out.lt)
  obtain ⟨⟨c0, c1, c2⟩, f0, f1, f2⟩ := HC.out.facts3
  clear hb1
  go_wp2_with fail
  refine bodyPost_ret (results_val Tryz.results41 _ _ (w.heap.size + 1 + 1) _ _ _ (by rfl) (HC.out.set3 _ _ _)) rfl ⟨ret_val (by simp [twoV, tru, valOf, HY.out]; rfl), ((HX.out.setCell (by simp; omega) _).setCell (by simp; omega) _).setCell (by simp; omega) _⟩
set_option maxHeartbeats 4000000 in
set_option maxRecDepth 100000 in
theorem two_12q (an bn : Int) (w : World) (h : ¬ an = 1) : Calls Tryz.prog 41 #[.int .i64 12, .agg #[.int .i64 2, .int .i64 an], .agg #[.int .i64 2, .int .i64 bn]] w fun e w' => e = .returned (valOf (twoV 12 2 an 2 bn)) ∧ Below w.heap.size w w' := by
  have hy2 : (an == 1) = false := by simpa using h
  have HY := Lib.hid h
  clear h
  have HB := Lib.hid ((w2_below w 2 an 2 bn).alloc (w2_below w 2 an 2 bn).size (.cells #[.int .i64 0, .int .i64 0, .int .i64 0] 71))
  have HL := Lib.hid (Blk.new_at (W2 w 2 an 2 bn) 71 #[.int .i64 0, .int .i64 0, .int .i64 0] (w.heap.size + 1 + 1) (w2_size w 2 an 2 bn))
  go_enter Tryz.func41, Tryz.ntmps41
  go_wp2_with fail
  refine (truth_val _ _).mono ?_
  rintro e w1 ⟨rfl, hb1⟩
  have HX := Lib.hid (HB.out.trans (hb1.mono HB.out.size))
  have HC := Lib.hid (HL.out.below hb1 HL.out.lt)
  obtain ⟨⟨c0, c1, c2⟩, f0, f1, f2⟩ := HC.out.facts3
  clear hb1
  go_wp2_with fail
  refine bodyPost_ret (results_val Tryz.results41 _ _ (w.heap.size + 1 + 1) _ _ _ (by rfl) (HC.out.set3 _ _ _)) rfl ⟨ret_val (by simp [twoV, tru, valOf, HY.out]), ((HX.out.setCell (by simp; omega) _).setCell (by simp; omega) _).setCell (by simp; omega) _⟩
set_option maxHeartbeats 4000000 in
set_option maxRecDepth 100000 in
theorem two_13p (an bn : Int) (w : World) (h : an = 1) : Calls Tryz.prog 41 #[.int .i64 13, .agg #[.int .i64 2, .int .i64 an], .agg #[.int .i64 2, .int .i64 bn]] w fun e w' => e = .returned (valOf (twoV 13 2 an 2 bn)) ∧ Below w.heap.size w w' := by
  have hy2 : (an == 1) = true := by simpa using h
  have HY := Lib.hid h
  clear h
  have HB := Lib.hid ((w2_below w 2 an 2 bn).alloc (w2_below w 2 an 2 bn).size (.cells #[.int .i64 0, .int .i64 0, .int .i64 0] 71))
  have HL := Lib.hid (Blk.new_at (W2 w 2 an 2 bn) 71 #[.int .i64 0, .int .i64 0, .int .i64 0] (w.heap.size + 1 + 1) (w2_size w 2 an 2 bn))
  go_enter Tryz.func41, Tryz.ntmps41
  go_wp2_with fail
  refine (truth_val _ _).mono ?_
  rintro e w1 ⟨rfl, hb1⟩
  have HX := Lib.hid (HB.out.trans (hb1.mono HB.out.size))
  have HC := Lib.hid (HL.out.below hb1 HL.out.lt)
  obtain ⟨⟨c0, c1, c2⟩, f0, f1, f2⟩ := HC.out.facts3
  clear hb1
  go_wp2_with fail
  refine bodyPost_ret (results_val Tryz.results41 _ _ (w.heap.size + 1 + 1) _ _ _ (by rfl) (HC.out.set3 _ _ _)) rfl ⟨ret_val (by simp [twoV, tru, valOf, HY.out]), ((HX.out.setCell (by simp; omega) _).setCell (by simp; omega) _).setCell (by simp; omega) _⟩
set_option maxHeartbeats 4000000 in
set_option maxRecDepth 100000 in
theorem two_13q (an bn : Int) (w : World) (h : ¬ an = 1) : Calls Tryz.prog 41 #[.int .i64 13, .agg #[.int .i64 2, .int .i64 an], .agg #[.int .i64 2, .int .i64 bn]] w fun e w' => e = .returned (valOf (twoV 13 2 an 2 bn)) ∧ Below w.heap.size w w' := by
  have hy2 : (an == 1) = false := by simpa using h
  have HY := Lib.hid h
  clear h
  have HB := Lib.hid ((w2_below w 2 an 2 bn).alloc (w2_below w 2 an 2 bn).size (.cells #[.int .i64 0, .int .i64 0, .int .i64 0] 71))
  have HL := Lib.hid (Blk.new_at (W2 w 2 an 2 bn) 71 #[.int .i64 0, .int .i64 0, .int .i64 0] (w.heap.size + 1 + 1) (w2_size w 2 an 2 bn))
  go_enter Tryz.func41, Tryz.ntmps41
  go_wp2_with fail
  refine (truth_val _ _).mono ?_
  rintro e w1 ⟨rfl, hb1⟩
  have HX := Lib.hid (HB.out.trans (hb1.mono HB.out.size))
  have HC := Lib.hid (HL.out.below hb1 HL.out.lt)
  obtain ⟨⟨c0, c1, c2⟩, f0, f1, f2⟩ := HC.out.facts3
  clear hb1
  go_wp2_with fail
  refine bodyPost_ret (results_val Tryz.results41 _ _ (w.heap.size + 1 + 1) _ _ _ (by rfl) (HC.out.set3 _ _ _)) rfl ⟨ret_val (by simp [twoV, tru, valOf, HY.out]; rfl), ((HX.out.setCell (by simp; omega) _).setCell (by simp; omega) _).setCell (by simp; omega) _⟩
end Go.Proofs.YtafcbgapllkghaaGreatDoor
