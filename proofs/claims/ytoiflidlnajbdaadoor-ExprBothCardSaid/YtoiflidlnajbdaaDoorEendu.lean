/- The contract of the document's End at tokens that take one. -/
import Derived.Test.YtoiflidlnajbdaaDoorEend
namespace Go.Proofs.YtoiflidlnajbdaaDoor
open Go.ChangeShapes Go.WideShapes Go.ChangeAt Go.RowKit
set_option linter.unusedVariables false

set_option maxHeartbeats 4000000 in
set_option maxRecDepth 100000 in
theorem end_not_bad (ts : List Tk) (b o cap k f : Nat) (vars : Int) (ty : Bool) (ve : Value) (w : World) (hk : k < ts.length) (hk1 : 1 ≤ k) (hl : ts.length ≤ 100) (c : Int) (hc : c ≠ 0) (hlt : b < w.heap.size) (c0 : w.cell? ⟨b, o + k * 3, none⟩ = some (.int .i64 14)) (c1 : w.cell? ⟨b, o + k * 3 + 1, none⟩ = some (.int .i64 0)) (c2 : w.cell? ⟨b, o + k * 3 + 2, none⟩ = some (.int .i64 0)) (hcc : ts.length ≤ cap)
    (HIH : ∀ w' y, Below w.heap.size w w' → y = ((k - 1 : Nat) : Int) → Calls Tryd.prog 18 #[.slice (some ⟨b, o, none⟩) ts.length cap, .int .i64 y, ve, .int .i64 vars, .bool ty] w' (EPost (.bad c) f w')) :
    Calls Tryd.prog 18 #[.slice (some ⟨b, o, none⟩) ts.length cap, .int .i64 (k : Int), ve, .int .i64 vars, .bool ty] w (EPost (.bad c) f w) := by
  have hk2 : (k : Int) < (ts.length : Int) := by omega
  have HB := Lib.hid (w0_below w 14 0 0)
  have HR := Lib.hid (w0_res w 14 0 0)
  have HT := Lib.hid (w0_tok w 14 0 0)
  have HIH' := Lib.hid HIH
  clear HIH
  have hc2 : (c != 0) = true := by simpa using hc
  have hc3 : (c == 0) = false := by simpa using hc
  go_enter Tryd.func18, Tryd.ntmps18
  go_wp2_with fail
  refine (HIH'.out _ _ HB.out (by omega)).mono ?_
  rintro e w1 ⟨rfl, hb1⟩
  have HX1 := Lib.hid (HB.out.trans (hb1.mono HB.out.size))
  have HR1 := Lib.hid (HR.out.below hb1 HR.out.lt)
  have HT1 := Lib.hid (HT.out.below hb1 HT.out.lt)
  have hwz : w.heap.size + 1 < w1.heap.size := HT1.out.lt
  unfold valOf
  obtain ⟨⟨t0, t1, t2⟩, _⟩ := HT1.out.facts3
  obtain ⟨⟨r0, r1, r2⟩, f0, f1, f2⟩ := HR1.out.facts3
  have hlt0 : w.heap.size < w1.heap.size := by omega
  have hne0 : ¬ w.heap.size = w1.heap.size := by omega
  obtain ⟨⟨q0, q1, q2⟩, g0, g1, g2⟩ := (HR1.out.alloc (.cells #[.int .i64 0, .int .i64 0, .int .i64 c] 52)).facts3
  clear hb1
  go_wp2_with fail
  refine bodyPost_ret (results_end Tryd.results18 _ _ w.heap.size _ _ _ (by rfl) ((HR1.out.set3 _ _ _).alloc _)) rfl ⟨ret_end (by rfl), (((HX1.out.setCell (by simp) _).setCell (by simp) _).setCell (by simp) _).alloc (by simp; omega) _⟩
set_option maxHeartbeats 4000000 in
set_option maxRecDepth 100000 in
theorem end_neg_bad (ts : List Tk) (b o cap k f : Nat) (vars : Int) (ty : Bool) (ve : Value) (w : World) (hk : k < ts.length) (hk1 : 1 ≤ k) (hl : ts.length ≤ 100) (c : Int) (hc : c ≠ 0) (hlt : b < w.heap.size) (c0 : w.cell? ⟨b, o + k * 3, none⟩ = some (.int .i64 19)) (c1 : w.cell? ⟨b, o + k * 3 + 1, none⟩ = some (.int .i64 0)) (c2 : w.cell? ⟨b, o + k * 3 + 2, none⟩ = some (.int .i64 0)) (hcc : ts.length ≤ cap)
    (HIH : ∀ w' y, Below w.heap.size w w' → y = ((k - 1 : Nat) : Int) → Calls Tryd.prog 18 #[.slice (some ⟨b, o, none⟩) ts.length cap, .int .i64 y, ve, .int .i64 vars, .bool ty] w' (EPost (.bad c) f w')) :
    Calls Tryd.prog 18 #[.slice (some ⟨b, o, none⟩) ts.length cap, .int .i64 (k : Int), ve, .int .i64 vars, .bool ty] w (EPost (.bad c) f w) := by
  have hk2 : (k : Int) < (ts.length : Int) := by omega
  have HB := Lib.hid (w0_below w 19 0 0)
  have HR := Lib.hid (w0_res w 19 0 0)
  have HT := Lib.hid (w0_tok w 19 0 0)
  have HIH' := Lib.hid HIH
  clear HIH
  have hc2 : (c != 0) = true := by simpa using hc
  have hc3 : (c == 0) = false := by simpa using hc
  go_enter Tryd.func18, Tryd.ntmps18
  go_wp2_with fail
  refine (HIH'.out _ _ HB.out (by omega)).mono ?_
  rintro e w1 ⟨rfl, hb1⟩
  have HX1 := Lib.hid (HB.out.trans (hb1.mono HB.out.size))
  have HR1 := Lib.hid (HR.out.below hb1 HR.out.lt)
  have HT1 := Lib.hid (HT.out.below hb1 HT.out.lt)
  have hwz : w.heap.size + 1 < w1.heap.size := HT1.out.lt
  unfold valOf
  obtain ⟨⟨t0, t1, t2⟩, _⟩ := HT1.out.facts3
  obtain ⟨⟨r0, r1, r2⟩, f0, f1, f2⟩ := HR1.out.facts3
  have hlt0 : w.heap.size < w1.heap.size := by omega
  have hne0 : ¬ w.heap.size = w1.heap.size := by omega
  obtain ⟨⟨q0, q1, q2⟩, g0, g1, g2⟩ := (HR1.out.alloc (.cells #[.int .i64 0, .int .i64 0, .int .i64 c] 52)).facts3
  clear hb1
  go_wp2_with fail
  refine bodyPost_ret (results_end Tryd.results18 _ _ w.heap.size _ _ _ (by rfl) ((HR1.out.set3 _ _ _).alloc _)) rfl ⟨ret_end (by rfl), (((HX1.out.setCell (by simp) _).setCell (by simp) _).setCell (by simp) _).alloc (by simp; omega) _⟩
set_option maxHeartbeats 4000000 in
set_option maxRecDepth 100000 in
theorem end_not_ok (ts : List Tk) (b o cap k f : Nat) (vars : Int) (ty : Bool) (ve : Value) (w : World) (hk : k < ts.length) (hk1 : 1 ≤ k) (hl : ts.length ≤ 100) (n : Int) (hlt : b < w.heap.size) (c0 : w.cell? ⟨b, o + k * 3, none⟩ = some (.int .i64 14)) (c1 : w.cell? ⟨b, o + k * 3 + 1, none⟩ = some (.int .i64 0)) (c2 : w.cell? ⟨b, o + k * 3 + 2, none⟩ = some (.int .i64 0)) (hcc : ts.length ≤ cap)
    (HIH : ∀ w' y, Below w.heap.size w w' → y = ((k - 1 : Nat) : Int) → Calls Tryd.prog 18 #[.slice (some ⟨b, o, none⟩) ts.length cap, .int .i64 y, ve, .int .i64 vars, .bool ty] w' (EPost (.ok 2 n) f w')) :
    Calls Tryd.prog 18 #[.slice (some ⟨b, o, none⟩) ts.length cap, .int .i64 (k : Int), ve, .int .i64 vars, .bool ty] w (EPost (tru (n == 0)) f w) := by
  have hk2 : (k : Int) < (ts.length : Int) := by omega
  have HB := Lib.hid (w0_below w 14 0 0)
  have HR := Lib.hid (w0_res w 14 0 0)
  have HT := Lib.hid (w0_tok w 14 0 0)
  have HIH' := Lib.hid HIH
  clear HIH
  go_enter Tryd.func18, Tryd.ntmps18
  go_wp2_with fail
  refine (HIH'.out _ _ HB.out (by omega)).mono ?_
  rintro e w1 ⟨rfl, hb1⟩
  have HX1 := Lib.hid (HB.out.trans (hb1.mono HB.out.size))
  have HR1 := Lib.hid (HR.out.below hb1 HR.out.lt)
  have HT1 := Lib.hid (HT.out.below hb1 HT.out.lt)
  have hwz : w.heap.size + 1 < w1.heap.size := HT1.out.lt
  unfold valOf
  obtain ⟨⟨t0, t1, t2⟩, _⟩ := HT1.out.facts3
  obtain ⟨⟨r0, r1, r2⟩, f0, f1, f2⟩ := HR1.out.facts3
  clear hb1
  go_wp2_with fail
  refine (truth_val _ _).mono ?_
  rintro e w2 ⟨rfl, hb2⟩
  have HX2 := Lib.hid ((HX1.out.alloc HX1.out.size (.cells #[.int .i64 2, .int .i64 n, .int .i64 0] 52)).trans (hb2.mono (by simp; omega)))
  have HR2 := Lib.hid ((HR1.out.alloc _).below hb2 (HR1.out.alloc _).lt)
  obtain ⟨⟨r0, r1, r2⟩, f0, f1, f2⟩ := HR2.out.facts3
  clear hb2
  go_wp2_with fail
  refine bodyPost_ret (results_end Tryd.results18 _ _ w.heap.size _ _ _ (by rfl) (HR2.out.set3 _ _ _)) rfl ⟨ret_end (by rfl), ((HX2.out.setCell (by simp) _).setCell (by simp) _).setCell (by simp) _⟩
set_option maxHeartbeats 4000000 in
set_option maxRecDepth 100000 in
theorem end_not_no (ts : List Tk) (b o cap k f : Nat) (vars : Int) (ty : Bool) (ve : Value) (w : World) (hk : k < ts.length) (hk1 : 1 ≤ k) (hl : ts.length ≤ 100) (n : Int) (hlt : b < w.heap.size) (c0 : w.cell? ⟨b, o + k * 3, none⟩ = some (.int .i64 14)) (c1 : w.cell? ⟨b, o + k * 3 + 1, none⟩ = some (.int .i64 0)) (c2 : w.cell? ⟨b, o + k * 3 + 2, none⟩ = some (.int .i64 0)) (hcc : ts.length ≤ cap)
    (HIH : ∀ w' y, Below w.heap.size w w' → y = ((k - 1 : Nat) : Int) → Calls Tryd.prog 18 #[.slice (some ⟨b, o, none⟩) ts.length cap, .int .i64 y, ve, .int .i64 vars, .bool ty] w' (EPost (.ok 1 n) f w')) :
    Calls Tryd.prog 18 #[.slice (some ⟨b, o, none⟩) ts.length cap, .int .i64 (k : Int), ve, .int .i64 vars, .bool ty] w (EPost (.bad 8) f w) := by
  have hk2 : (k : Int) < (ts.length : Int) := by omega
  have HB := Lib.hid (w0_below w 14 0 0)
  have HR := Lib.hid (w0_res w 14 0 0)
  have HT := Lib.hid (w0_tok w 14 0 0)
  have HIH' := Lib.hid HIH
  clear HIH
  go_enter Tryd.func18, Tryd.ntmps18
  go_wp2_with fail
  refine (HIH'.out _ _ HB.out (by omega)).mono ?_
  rintro e w1 ⟨rfl, hb1⟩
  have HX1 := Lib.hid (HB.out.trans (hb1.mono HB.out.size))
  have HR1 := Lib.hid (HR.out.below hb1 HR.out.lt)
  have HT1 := Lib.hid (HT.out.below hb1 HT.out.lt)
  have hwz : w.heap.size + 1 < w1.heap.size := HT1.out.lt
  unfold valOf
  obtain ⟨⟨t0, t1, t2⟩, _⟩ := HT1.out.facts3
  obtain ⟨⟨r0, r1, r2⟩, f0, f1, f2⟩ := HR1.out.facts3
  have hlt0 : w.heap.size < w1.heap.size := by omega
  have hne0 : ¬ w.heap.size = w1.heap.size := by omega
  obtain ⟨⟨q0, q1, q2⟩, g0, g1, g2⟩ := (HR1.out.alloc (.cells #[.int .i64 1, .int .i64 n, .int .i64 0] 52)).facts3
  clear hb1
  go_wp2_with fail
  refine bodyPost_ret (results_end Tryd.results18 _ _ w.heap.size _ _ _ (by rfl) ((HR1.out.set3 _ _ _).alloc _)) rfl ⟨ret_end (by rfl), (((HX1.out.setCell (by simp) _).setCell (by simp) _).setCell (by simp) _).alloc (by simp; omega) _⟩
set_option maxHeartbeats 4000000 in
set_option maxRecDepth 100000 in
theorem end_neg_ok (ts : List Tk) (b o cap k f : Nat) (vars : Int) (ty : Bool) (ve : Value) (w : World) (hk : k < ts.length) (hk1 : 1 ≤ k) (hl : ts.length ≤ 100) (n : Int) (hlt : b < w.heap.size) (c0 : w.cell? ⟨b, o + k * 3, none⟩ = some (.int .i64 19)) (c1 : w.cell? ⟨b, o + k * 3 + 1, none⟩ = some (.int .i64 0)) (c2 : w.cell? ⟨b, o + k * 3 + 2, none⟩ = some (.int .i64 0)) (hcc : ts.length ≤ cap)
    (HIH : ∀ w' y, Below w.heap.size w w' → y = ((k - 1 : Nat) : Int) → Calls Tryd.prog 18 #[.slice (some ⟨b, o, none⟩) ts.length cap, .int .i64 y, ve, .int .i64 vars, .bool ty] w' (EPost (.ok 1 n) f w')) :
    Calls Tryd.prog 18 #[.slice (some ⟨b, o, none⟩) ts.length cap, .int .i64 (k : Int), ve, .int .i64 vars, .bool ty] w (EPost (.ok 1 (wrap64 (-n))) f w) := by
  have hk2 : (k : Int) < (ts.length : Int) := by omega
  have HB := Lib.hid (w0_below w 19 0 0)
  have HR := Lib.hid (w0_res w 19 0 0)
  have HT := Lib.hid (w0_tok w 19 0 0)
  have HIH' := Lib.hid HIH
  clear HIH
  go_enter Tryd.func18, Tryd.ntmps18
  go_wp2_with fail
  refine (HIH'.out _ _ HB.out (by omega)).mono ?_
  rintro e w1 ⟨rfl, hb1⟩
  have HX1 := Lib.hid (HB.out.trans (hb1.mono HB.out.size))
  have HR1 := Lib.hid (HR.out.below hb1 HR.out.lt)
  have HT1 := Lib.hid (HT.out.below hb1 HT.out.lt)
  have hwz : w.heap.size + 1 < w1.heap.size := HT1.out.lt
  unfold valOf
  obtain ⟨⟨t0, t1, t2⟩, _⟩ := HT1.out.facts3
  obtain ⟨⟨r0, r1, r2⟩, f0, f1, f2⟩ := HR1.out.facts3
  clear hb1
  go_wp2_with fail
  refine (rsub_any 0 n _).mono ?_
  rintro e w' ⟨rfl, rfl⟩
  go_wp2_with fail
  refine (whole_val _ _).mono ?_
  rintro e w2 ⟨rfl, hb2⟩
  have HX2 := Lib.hid ((HX1.out.alloc HX1.out.size (.cells #[.int .i64 1, .int .i64 n, .int .i64 0] 52)).trans (hb2.mono (by simp; omega)))
  have HR2 := Lib.hid ((HR1.out.alloc _).below hb2 (HR1.out.alloc _).lt)
  obtain ⟨⟨r0, r1, r2⟩, f0, f1, f2⟩ := HR2.out.facts3
  clear hb2
  go_wp2_with fail
  refine bodyPost_ret (results_end Tryd.results18 _ _ w.heap.size _ _ _ (by rfl) (HR2.out.set3 _ _ _)) rfl ⟨ret_end (by rfl), ((HX2.out.setCell (by simp) _).setCell (by simp) _).setCell (by simp) _⟩
set_option maxHeartbeats 4000000 in
set_option maxRecDepth 100000 in
theorem end_neg_no (ts : List Tk) (b o cap k f : Nat) (vars : Int) (ty : Bool) (ve : Value) (w : World) (hk : k < ts.length) (hk1 : 1 ≤ k) (hl : ts.length ≤ 100) (n : Int) (hlt : b < w.heap.size) (c0 : w.cell? ⟨b, o + k * 3, none⟩ = some (.int .i64 19)) (c1 : w.cell? ⟨b, o + k * 3 + 1, none⟩ = some (.int .i64 0)) (c2 : w.cell? ⟨b, o + k * 3 + 2, none⟩ = some (.int .i64 0)) (hcc : ts.length ≤ cap)
    (HIH : ∀ w' y, Below w.heap.size w w' → y = ((k - 1 : Nat) : Int) → Calls Tryd.prog 18 #[.slice (some ⟨b, o, none⟩) ts.length cap, .int .i64 y, ve, .int .i64 vars, .bool ty] w' (EPost (.ok 2 n) f w')) :
    Calls Tryd.prog 18 #[.slice (some ⟨b, o, none⟩) ts.length cap, .int .i64 (k : Int), ve, .int .i64 vars, .bool ty] w (EPost (.bad 8) f w) := by
  have hk2 : (k : Int) < (ts.length : Int) := by omega
  have HB := Lib.hid (w0_below w 19 0 0)
  have HR := Lib.hid (w0_res w 19 0 0)
  have HT := Lib.hid (w0_tok w 19 0 0)
  have HIH' := Lib.hid HIH
  clear HIH
  go_enter Tryd.func18, Tryd.ntmps18
  go_wp2_with fail
  refine (HIH'.out _ _ HB.out (by omega)).mono ?_
  rintro e w1 ⟨rfl, hb1⟩
  have HX1 := Lib.hid (HB.out.trans (hb1.mono HB.out.size))
  have HR1 := Lib.hid (HR.out.below hb1 HR.out.lt)
  have HT1 := Lib.hid (HT.out.below hb1 HT.out.lt)
  have hwz : w.heap.size + 1 < w1.heap.size := HT1.out.lt
  unfold valOf
  obtain ⟨⟨t0, t1, t2⟩, _⟩ := HT1.out.facts3
  obtain ⟨⟨r0, r1, r2⟩, f0, f1, f2⟩ := HR1.out.facts3
  have hlt0 : w.heap.size < w1.heap.size := by omega
  have hne0 : ¬ w.heap.size = w1.heap.size := by omega
  obtain ⟨⟨q0, q1, q2⟩, g0, g1, g2⟩ := (HR1.out.alloc (.cells #[.int .i64 2, .int .i64 n, .int .i64 0] 52)).facts3
  clear hb1
  go_wp2_with fail
  refine bodyPost_ret (results_end Tryd.results18 _ _ w.heap.size _ _ _ (by rfl) ((HR1.out.set3 _ _ _).alloc _)) rfl ⟨ret_end (by rfl), (((HX1.out.setCell (by simp) _).setCell (by simp) _).setCell (by simp) _).alloc (by simp; omega) _⟩
end Go.Proofs.YtoiflidlnajbdaaDoor
