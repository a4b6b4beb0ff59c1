/- The contract of the document's End at tokens that take two. -/
import Derived.Test.YtoiflidlnajbdaaDoorEend
namespace Go.Proofs.YtoiflidlnajbdaaDoor
open Go.ChangeShapes Go.WideShapes Go.ChangeAt Go.RowKit
set_option linter.unusedVariables false

theorem two_any (kd ak an bk bn : Int) (w : World) (hk : 3 ≤ kd ∧ kd ≤ 13) (ha : Good (.ok ak an)) (hb : Good (.ok bk bn)) : Calls Tryd.prog 30 #[.int .i64 kd, .agg #[.int .i64 ak, .int .i64 an], .agg #[.int .i64 bk, .int .i64 bn]] w fun e w' => e = .returned (valOf (twoV kd ak an bk bn)) ∧ Below w.heap.size w w' := by
  by_cases hne : ak = bk
  · subst hne
    rcases ha with ⟨rfl, fa⟩ | ⟨rfl, ha⟩
    · have fb : F64 bn := by
        rcases hb with ⟨_, h⟩ | ⟨h, _⟩
        · exact h
        · cases h
      obtain rfl | rfl | rfl | rfl | rfl | rfl | rfl | rfl | rfl | rfl | rfl : kd = 3 ∨ kd = 4 ∨ kd = 5 ∨ kd = 6 ∨ kd = 7 ∨ kd = 8 ∨ kd = 9 ∨ kd = 10 ∨ kd = 11 ∨ kd = 12 ∨ kd = 13 := by omega
      · exact two_3 an bn w
      · exact two_4 an bn w
      · exact two_5 an bn w
      · by_cases hz : bn = 0
        · subst hz; exact two_6z an w
        · exact two_6 an bn w hz fa fb
      · by_cases hz : bn = 0
        · subst hz; exact two_7z an w
        · exact two_7 an bn w hz fa fb
      · exact two_8 an bn w
      · exact two_9 an bn w
      · exact two_10 1 an bn w
      · exact two_11 1 an bn w
      · exact two_12n an bn w
      · exact two_13n an bn w
    · obtain rfl | rfl | rfl | rfl | rfl | rfl | rfl | rfl | rfl | rfl | rfl : kd = 3 ∨ kd = 4 ∨ kd = 5 ∨ kd = 6 ∨ kd = 7 ∨ kd = 8 ∨ kd = 9 ∨ kd = 10 ∨ kd = 11 ∨ kd = 12 ∨ kd = 13 := by omega
      · exact two_3t an bn w
      · exact two_4t an bn w
      · exact two_5t an bn w
      · exact two_6t an bn w
      · exact two_7t an bn w
      · exact two_8t an bn w
      · exact two_9t an bn w
      · exact two_10 2 an bn w
      · exact two_11 2 an bn w
      · by_cases h : an = 1
        · exact two_12p an bn w h
        · exact two_12q an bn w h
      · by_cases h : an = 1
        · exact two_13p an bn w h
        · exact two_13q an bn w h
  · exact two_diff kd ak an bk bn w hne
set_option maxHeartbeats 4000000 in
set_option maxRecDepth 100000 in
theorem end_bin_abad (ts : List Tk) (b o cap k f fb : Nat) (kd vars : Int) (ty : Bool) (ve : Value) (w : World) (hk : k < ts.length) (hk1 : 1 ≤ k) (hl : ts.length ≤ 100) (hkd : 3 ≤ kd ∧ kd ≤ 13) (hfb : 1 ≤ fb ∧ fb ≤ k) (c : Int) (hc : c ≠ 0) (bb : Vl) (hlt : b < w.heap.size) (c0 : w.cell? ⟨b, o + k * 3, none⟩ = some (.int .i64 kd)) (c1 : w.cell? ⟨b, o + k * 3 + 1, none⟩ = some (.int .i64 0)) (c2 : w.cell? ⟨b, o + k * 3 + 2, none⟩ = some (.int .i64 0)) (hcc : ts.length ≤ cap)
    (HIH : ∀ w' y, Below w.heap.size w w' → y = ((k - 1 : Nat) : Int) → Calls Tryd.prog 18 #[.slice (some ⟨b, o, none⟩) ts.length cap, .int .i64 y, ve, .int .i64 vars, .bool ty] w' (EPost (bb) fb w'))
    (HIH2 : ∀ w' y, Below w.heap.size w w' → y = ((fb - 1 : Nat) : Int) → Calls Tryd.prog 18 #[.slice (some ⟨b, o, none⟩) ts.length cap, .int .i64 y, ve, .int .i64 vars, .bool ty] w' (EPost (.bad c) f w')) :
    Calls Tryd.prog 18 #[.slice (some ⟨b, o, none⟩) ts.length cap, .int .i64 (k : Int), ve, .int .i64 vars, .bool ty] w (EPost (.bad c) f w) := by
  have hk2 : (k : Int) < (ts.length : Int) := by omega
  have HB := Lib.hid (w0_below w kd 0 0)
  have HR := Lib.hid (w0_res w kd 0 0)
  have HT := Lib.hid (w0_tok w kd 0 0)
  have HIH' := Lib.hid HIH
  have HIH2' := Lib.hid HIH2
  have HKD := Lib.hid hkd
  clear HIH HIH2
  have k1 : (kd == 1) = false := by simp; omega
  have k2 : (kd == 2) = false := by simp; omega
  have k15 : (kd == 15) = false := by simp; omega
  have k16 : (kd == 16) = false := by simp; omega
  have k14 : (kd == 14) = false := by simp; omega
  have k19 : (kd == 19) = false := by simp; omega
  clear hkd
  obtain ⟨x0, x1, x2, hbb⟩ : ∃ x0 x1 x2, valOf bb = .agg #[.int .i64 x0, .int .i64 x1, .int .i64 x2] := by cases bb <;> exact ⟨_, _, _, rfl⟩
  have hc2 : (c != 0) = true := by simpa using hc
  have hc3 : (c == 0) = false := by simpa using hc
  go_enter Tryd.func18, Tryd.ntmps18
  go_wp2_with fail
  refine (HIH'.out _ _ HB.out (by omega)).mono ?_
  rintro e w1 ⟨rfl, hb1⟩
  have HX1 := Lib.hid (HB.out.trans (hb1.mono HB.out.size))
  have HR1 := Lib.hid (HR.out.below hb1 HR.out.lt)
  have HT1 := Lib.hid (HT.out.below hb1 HT.out.lt)
  have hwz : w.heap.size + 1 < w1.heap.size := HT1.out.lt
  rw [hbb]
  clear hb1
  go_wp2_with fail
  have HX1b := Lib.hid (HX1.out.alloc HX1.out.size (.cells #[.int .i64 x0, .int .i64 x1, .int .i64 x2] 52))
  have HBB := Lib.hid (Blk.new w1 52 #[.int .i64 x0, .int .i64 x1, .int .i64 x2])
  refine (HIH2'.out _ _ HX1b.out (by omega)).mono ?_
  rintro e w2 ⟨rfl, hb2⟩
  have HX2 := Lib.hid (HX1b.out.trans (hb2.mono HX1b.out.size))
  have HR2 := Lib.hid ((HR1.out.alloc _).below hb2 (HR1.out.alloc _).lt)
  have HT2 := Lib.hid ((HT1.out.alloc _).below hb2 (HT1.out.alloc _).lt)
  have HB2 := Lib.hid (HBB.out.below hb2 HBB.out.lt)
  have hw2 : w1.heap.size < w2.heap.size := HB2.out.lt
  have hlt0 : w.heap.size < w2.heap.size := by omega
  have hne0 : ¬ w.heap.size = w2.heap.size := by omega
  have hlt1 : w.heap.size + 1 < w2.heap.size := by omega
  unfold valOf
  obtain ⟨⟨t0, t1, t2⟩, _⟩ := HT2.out.facts3
  obtain ⟨⟨r0, r1, r2⟩, f0, f1, f2⟩ := HR2.out.facts3
  obtain ⟨⟨b0, b1, b2⟩, _⟩ := HB2.out.facts3
  clear hb2
  go_wp2_with fail
  refine bodyPost_ret (results_end Tryd.results18 _ _ w.heap.size _ _ _ (by rfl) ((HR2.out.set3 _ _ _).alloc _)) rfl ⟨ret_end (by rfl), (((HX2.out.setCell (by simp) _).setCell (by simp) _).setCell (by simp) _).alloc (by simp; omega) _⟩
set_option maxHeartbeats 4000000 in
set_option maxRecDepth 100000 in
theorem end_bin_bbad (ts : List Tk) (b o cap k f fb : Nat) (kd vars : Int) (ty : Bool) (ve : Value) (w : World) (hk : k < ts.length) (hk1 : 1 ≤ k) (hl : ts.length ≤ 100) (hkd : 3 ≤ kd ∧ kd ≤ 13) (hfb : 1 ≤ fb ∧ fb ≤ k) (ak an : Int) (d : Int) (hd : d ≠ 0) (hlt : b < w.heap.size) (c0 : w.cell? ⟨b, o + k * 3, none⟩ = some (.int .i64 kd)) (c1 : w.cell? ⟨b, o + k * 3 + 1, none⟩ = some (.int .i64 0)) (c2 : w.cell? ⟨b, o + k * 3 + 2, none⟩ = some (.int .i64 0)) (hcc : ts.length ≤ cap)
    (HIH : ∀ w' y, Below w.heap.size w w' → y = ((k - 1 : Nat) : Int) → Calls Tryd.prog 18 #[.slice (some ⟨b, o, none⟩) ts.length cap, .int .i64 y, ve, .int .i64 vars, .bool ty] w' (EPost (.bad d) fb w'))
    (HIH2 : ∀ w' y, Below w.heap.size w w' → y = ((fb - 1 : Nat) : Int) → Calls Tryd.prog 18 #[.slice (some ⟨b, o, none⟩) ts.length cap, .int .i64 y, ve, .int .i64 vars, .bool ty] w' (EPost (.ok ak an) f w')) :
    Calls Tryd.prog 18 #[.slice (some ⟨b, o, none⟩) ts.length cap, .int .i64 (k : Int), ve, .int .i64 vars, .bool ty] w (EPost (.bad d) f w) := by
  have hk2 : (k : Int) < (ts.length : Int) := by omega
  have HB := Lib.hid (w0_below w kd 0 0)
  have HR := Lib.hid (w0_res w kd 0 0)
  have HT := Lib.hid (w0_tok w kd 0 0)
  have HIH' := Lib.hid HIH
  have HIH2' := Lib.hid HIH2
  have HKD := Lib.hid hkd
  clear HIH HIH2
  have k1 : (kd == 1) = false := by simp; omega
  have k2 : (kd == 2) = false := by simp; omega
  have k15 : (kd == 15) = false := by simp; omega
  have k16 : (kd == 16) = false := by simp; omega
  have k14 : (kd == 14) = false := by simp; omega
  have k19 : (kd == 19) = false := by simp; omega
  clear hkd
  have hd2 : (d != 0) = true := by simpa using hd
  have hd3 : (d == 0) = false := by simpa using hd
  go_enter Tryd.func18, Tryd.ntmps18
  go_wp2_with fail
  refine (HIH'.out _ _ HB.out (by omega)).mono ?_
  rintro e w1 ⟨rfl, hb1⟩
  have HX1 := Lib.hid (HB.out.trans (hb1.mono HB.out.size))
  have HR1 := Lib.hid (HR.out.below hb1 HR.out.lt)
  have HT1 := Lib.hid (HT.out.below hb1 HT.out.lt)
  have hwz : w.heap.size + 1 < w1.heap.size := HT1.out.lt
  unfold valOf
  clear hb1
  go_wp2_with fail
  have HX1b := Lib.hid (HX1.out.alloc HX1.out.size (.cells #[.int .i64 0, .int .i64 0, .int .i64 d] 52))
  have HBB := Lib.hid (Blk.new w1 52 #[.int .i64 0, .int .i64 0, .int .i64 d])
  refine (HIH2'.out _ _ HX1b.out (by omega)).mono ?_
  rintro e w2 ⟨rfl, hb2⟩
  have HX2 := Lib.hid (HX1b.out.trans (hb2.mono HX1b.out.size))
  have HR2 := Lib.hid ((HR1.out.alloc _).below hb2 (HR1.out.alloc _).lt)
  have HT2 := Lib.hid ((HT1.out.alloc _).below hb2 (HT1.out.alloc _).lt)
  have HB2 := Lib.hid (HBB.out.below hb2 HBB.out.lt)
  have hw2 : w1.heap.size < w2.heap.size := HB2.out.lt
  have hlt0 : w.heap.size < w2.heap.size := by omega
  have hne0 : ¬ w.heap.size = w2.heap.size := by omega
  have hlt1 : w.heap.size + 1 < w2.heap.size := by omega
  unfold valOf
  obtain ⟨⟨t0, t1, t2⟩, _⟩ := HT2.out.facts3
  obtain ⟨⟨r0, r1, r2⟩, f0, f1, f2⟩ := HR2.out.facts3
  obtain ⟨⟨b0, b1, b2⟩, _⟩ := HB2.out.facts3
  clear hb2
  go_wp2_with fail
  refine bodyPost_ret (results_end Tryd.results18 _ _ w.heap.size _ _ _ (by rfl) ((HR2.out.set3 _ _ _).alloc _)) rfl ⟨ret_end (by rfl), (((HX2.out.setCell (by simp) _).setCell (by simp) _).setCell (by simp) _).alloc (by simp; omega) _⟩
set_option maxHeartbeats 4000000 in
set_option maxRecDepth 100000 in
theorem end_bin_ok (ts : List Tk) (b o cap k f fb : Nat) (kd vars : Int) (ty : Bool) (ve : Value) (w : World) (hk : k < ts.length) (hk1 : 1 ≤ k) (hl : ts.length ≤ 100) (hkd : 3 ≤ kd ∧ kd ≤ 13) (hfb : 1 ≤ fb ∧ fb ≤ k) (ak an : Int) (bk bn : Int) (HG : Good (.ok ak an) ∧ Good (.ok bk bn)) (vk vn : Int) (HV : twoV kd ak an bk bn = .ok vk vn) (hlt : b < w.heap.size) (c0 : w.cell? ⟨b, o + k * 3, none⟩ = some (.int .i64 kd)) (c1 : w.cell? ⟨b, o + k * 3 + 1, none⟩ = some (.int .i64 0)) (c2 : w.cell? ⟨b, o + k * 3 + 2, none⟩ = some (.int .i64 0)) (hcc : ts.length ≤ cap)
    (HIH : ∀ w' y, Below w.heap.size w w' → y = ((k - 1 : Nat) : Int) → Calls Tryd.prog 18 #[.slice (some ⟨b, o, none⟩) ts.length cap, .int .i64 y, ve, .int .i64 vars, .bool ty] w' (EPost (.ok bk bn) fb w'))
    (HIH2 : ∀ w' y, Below w.heap.size w w' → y = ((fb - 1 : Nat) : Int) → Calls Tryd.prog 18 #[.slice (some ⟨b, o, none⟩) ts.length cap, .int .i64 y, ve, .int .i64 vars, .bool ty] w' (EPost (.ok ak an) f w')) :
    Calls Tryd.prog 18 #[.slice (some ⟨b, o, none⟩) ts.length cap, .int .i64 (k : Int), ve, .int .i64 vars, .bool ty] w (EPost (.ok vk vn) f w) := by
  have hk2 : (k : Int) < (ts.length : Int) := by omega
  have HB := Lib.hid (w0_below w kd 0 0)
  have HR := Lib.hid (w0_res w kd 0 0)
  have HT := Lib.hid (w0_tok w kd 0 0)
  have HIH' := Lib.hid HIH
  have HIH2' := Lib.hid HIH2
  have HKD := Lib.hid hkd
  clear HIH HIH2
  have k1 : (kd == 1) = false := by simp; omega
  have k2 : (kd == 2) = false := by simp; omega
  have k15 : (kd == 15) = false := by simp; omega
  have k16 : (kd == 16) = false := by simp; omega
  have k14 : (kd == 14) = false := by simp; omega
  have k19 : (kd == 19) = false := by simp; omega
  clear hkd
  go_enter Tryd.func18, Tryd.ntmps18
  go_wp2_with fail
  refine (HIH'.out _ _ HB.out (by omega)).mono ?_
  rintro e w1 ⟨rfl, hb1⟩
  have HX1 := Lib.hid (HB.out.trans (hb1.mono HB.out.size))
  have HR1 := Lib.hid (HR.out.below hb1 HR.out.lt)
  have HT1 := Lib.hid (HT.out.below hb1 HT.out.lt)
  have hwz : w.heap.size + 1 < w1.heap.size := HT1.out.lt
  unfold valOf
  clear hb1
  go_wp2_with fail
  have HX1b := Lib.hid (HX1.out.alloc HX1.out.size (.cells #[.int .i64 bk, .int .i64 bn, .int .i64 0] 52))
  have HBB := Lib.hid (Blk.new w1 52 #[.int .i64 bk, .int .i64 bn, .int .i64 0])
  refine (HIH2'.out _ _ HX1b.out (by omega)).mono ?_
  rintro e w2 ⟨rfl, hb2⟩
  have HX2 := Lib.hid (HX1b.out.trans (hb2.mono HX1b.out.size))
  have HR2 := Lib.hid ((HR1.out.alloc _).below hb2 (HR1.out.alloc _).lt)
  have HT2 := Lib.hid ((HT1.out.alloc _).below hb2 (HT1.out.alloc _).lt)
  have HB2 := Lib.hid (HBB.out.below hb2 HBB.out.lt)
  have hw2 : w1.heap.size < w2.heap.size := HB2.out.lt
  have hlt0 : w.heap.size < w2.heap.size := by omega
  have hne0 : ¬ w.heap.size = w2.heap.size := by omega
  have hlt1 : w.heap.size + 1 < w2.heap.size := by omega
  unfold valOf
  obtain ⟨⟨t0, t1, t2⟩, _⟩ := HT2.out.facts3
  obtain ⟨⟨r0, r1, r2⟩, f0, f1, f2⟩ := HR2.out.facts3
  obtain ⟨⟨b0, b1, b2⟩, _⟩ := HB2.out.facts3
  clear hb2
  go_wp2_with fail
  have HX2b := Lib.hid (HX2.out.alloc HX2.out.size (.cells #[.int .i64 ak, .int .i64 an, .int .i64 0] 52))
  refine (two_any kd ak an bk bn _ HKD.out HG.1 HG.2).mono ?_
  rintro e w3 ⟨rfl, hb3⟩
  rw [HV]
  have HX3 := Lib.hid (HX2b.out.trans (hb3.mono HX2b.out.size))
  have HR3 := Lib.hid ((HR2.out.alloc _).below hb3 (HR2.out.alloc _).lt)
  have hw3 : w2.heap.size < w3.heap.size := by have := hb3.size; simp at this; omega
  have hlt3 : w.heap.size < w3.heap.size := by omega
  have hne3 : ¬ w.heap.size = w3.heap.size := by omega
  unfold valOf
  obtain ⟨⟨r0, r1, r2⟩, f0, f1, f2⟩ := HR3.out.facts3
  clear hb3
  go_wp2_with fail
  refine bodyPost_ret (results_end Tryd.results18 _ _ w.heap.size _ _ _ (by rfl) ((HR3.out.set3 _ _ _).alloc _)) rfl ⟨ret_end (by rfl), (((HX3.out.setCell (by simp) _).setCell (by simp) _).setCell (by simp) _).alloc (by simp; omega) _⟩
set_option maxHeartbeats 4000000 in
set_option maxRecDepth 100000 in
theorem end_bin_b8 (ts : List Tk) (b o cap k f fb : Nat) (kd vars : Int) (ty : Bool) (ve : Value) (w : World) (hk : k < ts.length) (hk1 : 1 ≤ k) (hl : ts.length ≤ 100) (hkd : 3 ≤ kd ∧ kd ≤ 13) (hfb : 1 ≤ fb ∧ fb ≤ k) (ak an : Int) (bk bn : Int) (HG : Good (.ok ak an) ∧ Good (.ok bk bn)) (vc : Int) (hvc : vc ≠ 9) (HV : twoV kd ak an bk bn = .bad vc) (hlt : b < w.heap.size) (c0 : w.cell? ⟨b, o + k * 3, none⟩ = some (.int .i64 kd)) (c1 : w.cell? ⟨b, o + k * 3 + 1, none⟩ = some (.int .i64 0)) (c2 : w.cell? ⟨b, o + k * 3 + 2, none⟩ = some (.int .i64 0)) (hcc : ts.length ≤ cap)
    (HIH : ∀ w' y, Below w.heap.size w w' → y = ((k - 1 : Nat) : Int) → Calls Tryd.prog 18 #[.slice (some ⟨b, o, none⟩) ts.length cap, .int .i64 y, ve, .int .i64 vars, .bool ty] w' (EPost (.ok bk bn) fb w'))
    (HIH2 : ∀ w' y, Below w.heap.size w w' → y = ((fb - 1 : Nat) : Int) → Calls Tryd.prog 18 #[.slice (some ⟨b, o, none⟩) ts.length cap, .int .i64 y, ve, .int .i64 vars, .bool ty] w' (EPost (.ok ak an) f w')) :
    Calls Tryd.prog 18 #[.slice (some ⟨b, o, none⟩) ts.length cap, .int .i64 (k : Int), ve, .int .i64 vars, .bool ty] w (EPost (.bad vc) f w) := by
  have hk2 : (k : Int) < (ts.length : Int) := by omega
  have HB := Lib.hid (w0_below w kd 0 0)
  have HR := Lib.hid (w0_res w kd 0 0)
  have HT := Lib.hid (w0_tok w kd 0 0)
  have HIH' := Lib.hid HIH
  have HIH2' := Lib.hid HIH2
  have HKD := Lib.hid hkd
  clear HIH HIH2
  have k1 : (kd == 1) = false := by simp; omega
  have k2 : (kd == 2) = false := by simp; omega
  have k15 : (kd == 15) = false := by simp; omega
  have k16 : (kd == 16) = false := by simp; omega
  have k14 : (kd == 14) = false := by simp; omega
  have k19 : (kd == 19) = false := by simp; omega
  clear hkd
  go_enter Tryd.func18, Tryd.ntmps18
  go_wp2_with fail
  refine (HIH'.out _ _ HB.out (by omega)).mono ?_
  rintro e w1 ⟨rfl, hb1⟩
  have HX1 := Lib.hid (HB.out.trans (hb1.mono HB.out.size))
  have HR1 := Lib.hid (HR.out.below hb1 HR.out.lt)
  have HT1 := Lib.hid (HT.out.below hb1 HT.out.lt)
  have hwz : w.heap.size + 1 < w1.heap.size := HT1.out.lt
  unfold valOf
  clear hb1
  go_wp2_with fail
  have HX1b := Lib.hid (HX1.out.alloc HX1.out.size (.cells #[.int .i64 bk, .int .i64 bn, .int .i64 0] 52))
  have HBB := Lib.hid (Blk.new w1 52 #[.int .i64 bk, .int .i64 bn, .int .i64 0])
  refine (HIH2'.out _ _ HX1b.out (by omega)).mono ?_
  rintro e w2 ⟨rfl, hb2⟩
  have HX2 := Lib.hid (HX1b.out.trans (hb2.mono HX1b.out.size))
  have HR2 := Lib.hid ((HR1.out.alloc _).below hb2 (HR1.out.alloc _).lt)
  have HT2 := Lib.hid ((HT1.out.alloc _).below hb2 (HT1.out.alloc _).lt)
  have HB2 := Lib.hid (HBB.out.below hb2 HBB.out.lt)
  have hw2 : w1.heap.size < w2.heap.size := HB2.out.lt
  have hlt0 : w.heap.size < w2.heap.size := by omega
  have hne0 : ¬ w.heap.size = w2.heap.size := by omega
  have hlt1 : w.heap.size + 1 < w2.heap.size := by omega
  unfold valOf
  obtain ⟨⟨t0, t1, t2⟩, _⟩ := HT2.out.facts3
  obtain ⟨⟨r0, r1, r2⟩, f0, f1, f2⟩ := HR2.out.facts3
  obtain ⟨⟨b0, b1, b2⟩, _⟩ := HB2.out.facts3
  clear hb2
  go_wp2_with fail
  have HX2b := Lib.hid (HX2.out.alloc HX2.out.size (.cells #[.int .i64 ak, .int .i64 an, .int .i64 0] 52))
  refine (two_any kd ak an bk bn _ HKD.out HG.1 HG.2).mono ?_
  rintro e w3 ⟨rfl, hb3⟩
  rw [HV]
  have HX3 := Lib.hid (HX2b.out.trans (hb3.mono HX2b.out.size))
  have HR3 := Lib.hid ((HR2.out.alloc _).below hb3 (HR2.out.alloc _).lt)
  have hw3 : w2.heap.size < w3.heap.size := by have := hb3.size; simp at this; omega
  have hlt3 : w.heap.size < w3.heap.size := by omega
  have hne3 : ¬ w.heap.size = w3.heap.size := by omega
  unfold valOf
  obtain ⟨⟨r0, r1, r2⟩, f0, f1, f2⟩ := HR3.out.facts3
  clear hb3
  have hv9 : (vc == 9) = false := by simpa using hvc
  go_wp2_with fail
  refine bodyPost_ret (results_end Tryd.results18 _ _ w.heap.size _ _ _ (by rfl) ((HR3.out.set3 _ _ _).alloc _)) rfl ⟨ret_end (by rfl), (((HX3.out.setCell (by simp) _).setCell (by simp) _).setCell (by simp) _).alloc (by simp; omega) _⟩
set_option maxHeartbeats 4000000 in
set_option maxRecDepth 100000 in
theorem end_bin_b9t (ts : List Tk) (b o cap k f fb : Nat) (kd vars : Int) (ve : Value) (w : World) (hk : k < ts.length) (hk1 : 1 ≤ k) (hl : ts.length ≤ 100) (hkd : 3 ≤ kd ∧ kd ≤ 13) (hfb : 1 ≤ fb ∧ fb ≤ k) (ak an : Int) (bk bn : Int) (HG : Good (.ok ak an) ∧ Good (.ok bk bn)) (HV : twoV kd ak an bk bn = .bad 9) (hlt : b < w.heap.size) (c0 : w.cell? ⟨b, o + k * 3, none⟩ = some (.int .i64 kd)) (c1 : w.cell? ⟨b, o + k * 3 + 1, none⟩ = some (.int .i64 0)) (c2 : w.cell? ⟨b, o + k * 3 + 2, none⟩ = some (.int .i64 0)) (hcc : ts.length ≤ cap)
    (HIH : ∀ w' y, Below w.heap.size w w' → y = ((k - 1 : Nat) : Int) → Calls Tryd.prog 18 #[.slice (some ⟨b, o, none⟩) ts.length cap, .int .i64 y, ve, .int .i64 vars, .bool true] w' (EPost (.ok bk bn) fb w'))
    (HIH2 : ∀ w' y, Below w.heap.size w w' → y = ((fb - 1 : Nat) : Int) → Calls Tryd.prog 18 #[.slice (some ⟨b, o, none⟩) ts.length cap, .int .i64 y, ve, .int .i64 vars, .bool true] w' (EPost (.ok ak an) f w')) :
    Calls Tryd.prog 18 #[.slice (some ⟨b, o, none⟩) ts.length cap, .int .i64 (k : Int), ve, .int .i64 vars, .bool true] w (EPost (.ok 1 0) f w) := by
  have hk2 : (k : Int) < (ts.length : Int) := by omega
  have HB := Lib.hid (w0_below w kd 0 0)
  have HR := Lib.hid (w0_res w kd 0 0)
  have HT := Lib.hid (w0_tok w kd 0 0)
  have HIH' := Lib.hid HIH
  have HIH2' := Lib.hid HIH2
  have HKD := Lib.hid hkd
  clear HIH HIH2
  have k1 : (kd == 1) = false := by simp; omega
  have k2 : (kd == 2) = false := by simp; omega
  have k15 : (kd == 15) = false := by simp; omega
  have k16 : (kd == 16) = false := by simp; omega
  have k14 : (kd == 14) = false := by simp; omega
  have k19 : (kd == 19) = false := by simp; omega
  clear hkd
  go_enter Tryd.func18, Tryd.ntmps18
  go_wp2_with fail
  refine (HIH'.out _ _ HB.out (by omega)).mono ?_
  rintro e w1 ⟨rfl, hb1⟩
  have HX1 := Lib.hid (HB.out.trans (hb1.mono HB.out.size))
  have HR1 := Lib.hid (HR.out.below hb1 HR.out.lt)
  have HT1 := Lib.hid (HT.out.below hb1 HT.out.lt)
  have hwz : w.heap.size + 1 < w1.heap.size := HT1.out.lt
  unfold valOf
  clear hb1
  go_wp2_with fail
  have HX1b := Lib.hid (HX1.out.alloc HX1.out.size (.cells #[.int .i64 bk, .int .i64 bn, .int .i64 0] 52))
  have HBB := Lib.hid (Blk.new w1 52 #[.int .i64 bk, .int .i64 bn, .int .i64 0])
  refine (HIH2'.out _ _ HX1b.out (by omega)).mono ?_
  rintro e w2 ⟨rfl, hb2⟩
  have HX2 := Lib.hid (HX1b.out.trans (hb2.mono HX1b.out.size))
  have HR2 := Lib.hid ((HR1.out.alloc _).below hb2 (HR1.out.alloc _).lt)
  have HT2 := Lib.hid ((HT1.out.alloc _).below hb2 (HT1.out.alloc _).lt)
  have HB2 := Lib.hid (HBB.out.below hb2 HBB.out.lt)
  have hw2 : w1.heap.size < w2.heap.size := HB2.out.lt
  have hlt0 : w.heap.size < w2.heap.size := by omega
  have hne0 : ¬ w.heap.size = w2.heap.size := by omega
  have hlt1 : w.heap.size + 1 < w2.heap.size := by omega
  unfold valOf
  obtain ⟨⟨t0, t1, t2⟩, _⟩ := HT2.out.facts3
  obtain ⟨⟨r0, r1, r2⟩, f0, f1, f2⟩ := HR2.out.facts3
  obtain ⟨⟨b0, b1, b2⟩, _⟩ := HB2.out.facts3
  clear hb2
  go_wp2_with fail
  have HX2b := Lib.hid (HX2.out.alloc HX2.out.size (.cells #[.int .i64 ak, .int .i64 an, .int .i64 0] 52))
  refine (two_any kd ak an bk bn _ HKD.out HG.1 HG.2).mono ?_
  rintro e w3 ⟨rfl, hb3⟩
  rw [HV]
  have HX3 := Lib.hid (HX2b.out.trans (hb3.mono HX2b.out.size))
  have HR3 := Lib.hid ((HR2.out.alloc _).below hb3 (HR2.out.alloc _).lt)
  have hw3 : w2.heap.size < w3.heap.size := by have := hb3.size; simp at this; omega
  have hlt3 : w.heap.size < w3.heap.size := by omega
  have hne3 : ¬ w.heap.size = w3.heap.size := by omega
  unfold valOf
  obtain ⟨⟨r0, r1, r2⟩, f0, f1, f2⟩ := HR3.out.facts3
  clear hb3
  go_wp2_with fail
  refine (whole_val _ _).mono ?_
  rintro e w4 ⟨rfl, hb4⟩
  have HX4 := Lib.hid ((HX3.out.alloc HX3.out.size (.cells #[.int .i64 0, .int .i64 0, .int .i64 9] 52)).trans (hb4.mono (by simp; omega)))
  have HR4 := Lib.hid ((HR3.out.alloc _).below hb4 (HR3.out.alloc _).lt)
  obtain ⟨⟨r0, r1, r2⟩, f0, f1, f2⟩ := HR4.out.facts3
  clear hb4
  go_wp2_with fail
  refine bodyPost_ret (results_end Tryd.results18 _ _ w.heap.size _ _ _ (by rfl) (HR4.out.set3 _ _ _)) rfl ⟨ret_end (by rfl), ((HX4.out.setCell (by simp) _).setCell (by simp) _).setCell (by simp) _⟩
set_option maxHeartbeats 4000000 in
set_option maxRecDepth 100000 in
theorem end_bin_b9e (ts : List Tk) (b o cap k f fb : Nat) (kd vars : Int) (ve : Value) (w : World) (hk : k < ts.length) (hk1 : 1 ≤ k) (hl : ts.length ≤ 100) (hkd : 3 ≤ kd ∧ kd ≤ 13) (hfb : 1 ≤ fb ∧ fb ≤ k) (ak an : Int) (bk bn : Int) (HG : Good (.ok ak an) ∧ Good (.ok bk bn)) (HV : twoV kd ak an bk bn = .bad 9) (hlt : b < w.heap.size) (c0 : w.cell? ⟨b, o + k * 3, none⟩ = some (.int .i64 kd)) (c1 : w.cell? ⟨b, o + k * 3 + 1, none⟩ = some (.int .i64 0)) (c2 : w.cell? ⟨b, o + k * 3 + 2, none⟩ = some (.int .i64 0)) (hcc : ts.length ≤ cap)
    (HIH : ∀ w' y, Below w.heap.size w w' → y = ((k - 1 : Nat) : Int) → Calls Tryd.prog 18 #[.slice (some ⟨b, o, none⟩) ts.length cap, .int .i64 y, ve, .int .i64 vars, .bool false] w' (EPost (.ok bk bn) fb w'))
    (HIH2 : ∀ w' y, Below w.heap.size w w' → y = ((fb - 1 : Nat) : Int) → Calls Tryd.prog 18 #[.slice (some ⟨b, o, none⟩) ts.length cap, .int .i64 y, ve, .int .i64 vars, .bool false] w' (EPost (.ok ak an) f w')) :
    Calls Tryd.prog 18 #[.slice (some ⟨b, o, none⟩) ts.length cap, .int .i64 (k : Int), ve, .int .i64 vars, .bool false] w (EPost (.bad 9) f w) := by
  have hk2 : (k : Int) < (ts.length : Int) := by omega
  have HB := Lib.hid (w0_below w kd 0 0)
  have HR := Lib.hid (w0_res w kd 0 0)
  have HT := Lib.hid (w0_tok w kd 0 0)
  have HIH' := Lib.hid HIH
  have HIH2' := Lib.hid HIH2
  have HKD := Lib.hid hkd
  clear HIH HIH2
  have k1 : (kd == 1) = false := by simp; omega
  have k2 : (kd == 2) = false := by simp; omega
  have k15 : (kd == 15) = false := by simp; omega
  have k16 : (kd == 16) = false := by simp; omega
  have k14 : (kd == 14) = false := by simp; omega
  have k19 : (kd == 19) = false := by simp; omega
  clear hkd
  go_enter Tryd.func18, Tryd.ntmps18
  go_wp2_with fail
  refine (HIH'.out _ _ HB.out (by omega)).mono ?_
  rintro e w1 ⟨rfl, hb1⟩
  have HX1 := Lib.hid (HB.out.trans (hb1.mono HB.out.size))
  have HR1 := Lib.hid (HR.out.below hb1 HR.out.lt)
  have HT1 := Lib.hid (HT.out.below hb1 HT.out.lt)
  have hwz : w.heap.size + 1 < w1.heap.size := HT1.out.lt
  unfold valOf
  clear hb1
  go_wp2_with fail
  have HX1b := Lib.hid (HX1.out.alloc HX1.out.size (.cells #[.int .i64 bk, .int .i64 bn, .int .i64 0] 52))
  have HBB := Lib.hid (Blk.new w1 52 #[.int .i64 bk, .int .i64 bn, .int .i64 0])
  refine (HIH2'.out _ _ HX1b.out (by omega)).mono ?_
  rintro e w2 ⟨rfl, hb2⟩
  have HX2 := Lib.hid (HX1b.out.trans (hb2.mono HX1b.out.size))
  have HR2 := Lib.hid ((HR1.out.alloc _).below hb2 (HR1.out.alloc _).lt)
  have HT2 := Lib.hid ((HT1.out.alloc _).below hb2 (HT1.out.alloc _).lt)
  have HB2 := Lib.hid (HBB.out.below hb2 HBB.out.lt)
  have hw2 : w1.heap.size < w2.heap.size := HB2.out.lt
  have hlt0 : w.heap.size < w2.heap.size := by omega
  have hne0 : ¬ w.heap.size = w2.heap.size := by omega
  have hlt1 : w.heap.size + 1 < w2.heap.size := by omega
  unfold valOf
  obtain ⟨⟨t0, t1, t2⟩, _⟩ := HT2.out.facts3
  obtain ⟨⟨r0, r1, r2⟩, f0, f1, f2⟩ := HR2.out.facts3
  obtain ⟨⟨b0, b1, b2⟩, _⟩ := HB2.out.facts3
  clear hb2
  go_wp2_with fail
  have HX2b := Lib.hid (HX2.out.alloc HX2.out.size (.cells #[.int .i64 ak, .int .i64 an, .int .i64 0] 52))
  refine (two_any kd ak an bk bn _ HKD.out HG.1 HG.2).mono ?_
  rintro e w3 ⟨rfl, hb3⟩
  rw [HV]
  have HX3 := Lib.hid (HX2b.out.trans (hb3.mono HX2b.out.size))
  have HR3 := Lib.hid ((HR2.out.alloc _).below hb3 (HR2.out.alloc _).lt)
  have hw3 : w2.heap.size < w3.heap.size := by have := hb3.size; simp at this; omega
  have hlt3 : w.heap.size < w3.heap.size := by omega
  have hne3 : ¬ w.heap.size = w3.heap.size := by omega
  unfold valOf
  obtain ⟨⟨r0, r1, r2⟩, f0, f1, f2⟩ := HR3.out.facts3
  clear hb3
  go_wp2_with fail
  refine bodyPost_ret (results_end Tryd.results18 _ _ w.heap.size _ _ _ (by rfl) ((HR3.out.set3 _ _ _).alloc _)) rfl ⟨ret_end (by rfl), (((HX3.out.setCell (by simp) _).setCell (by simp) _).setCell (by simp) _).alloc (by simp; omega) _⟩
end Go.Proofs.YtoiflidlnajbdaaDoor
