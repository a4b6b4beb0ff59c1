/- The contracts of codec's putEach and putRow of actions, putState, putTrans, putChart and Put: a chart's bytes, or chart.Check's error. -/
import Derived.Test.YtkdgcdcakioajaaGreatDoorKput
import Derived.Test.YtkdgcdcakioajaaGreatDoorCfew
namespace Go.Proofs.YtkdgcdcakioajaaGreatDoor
open Go.ChangeShapes Go.WideShapes Go.ChangeAt Go.RowKit
set_option linter.unusedVariables false

theorem enters54 : Enters 54 := enters_of Tryz.func54 (by kernel_rfl) rfl
theorem enters24 : Enters 24 := enters_of Tryz.func24 (by kernel_rfl) rfl
theorem enters26 : Enters 26 := enters_of Tryz.func26 (by kernel_rfl) rfl
set_option maxHeartbeats 1000000 in
set_option maxRecDepth 100000 in
theorem putActs_any (W0 : World) (vl : Value) (xs : List Ac) (v : Value) (pre : List UInt8) (w : World) (hx : ∀ x ∈ xs, okAc x) (hA : ActsAt W0 vl xs) (hb : Below W0.heap.size W0 w) (ho : OwnsB W0.heap.size w v pre) (hl : (pre ++ xs.flatMap encAc).length ≤ 1000000) (hs : xs.length ≤ 1000) :
    Calls Tryz.prog 75 #[v, vl, .func (.func 54) #[] #[]] w (WrPost W0.heap.size (pre ++ xs.flatMap encAc) w) := by
  have hE := enters54
  unfold Enters at hE
  have HX := Lib.hid hx
  have HA := Lib.hid hA
  have HB := Lib.hid hb
  have HO := Lib.hid ho
  have HL := Lib.hid hl
  obtain ⟨A, cap, rfl, hcap⟩ := RowsAt.slice hA
  clear hx hA hb ho hl
  go_enter Tryz.func75, Tryz.ntmps75
  go_wp2_with fail
  go_loopw [0, 11] (fun vb i wr => ∃ (k : Nat), k ≤ xs.length ∧ i = .int .i64 (k : Int) ∧ Hid (Wrote W0.heap.size w wr) ∧ Hid (OwnsB W0.heap.size wr vb (pre ++ (xs.take k).flatMap encAc))) (fun _ i _ => xs.length - (intOf i).toNat)
  case atStart => exact ⟨0, Nat.zero_le _, rfl, Lib.hid (Wrote.refl _ _), by simpa using HO⟩
  case round =>
    obtain ⟨k, hk, rfl, hW, hown⟩ := hrel
    obtain ⟨wo, rfl⟩ : ∃ wo : World, wo = wr := ⟨_, rfl⟩
    by_cases hlt : k < xs.length
    · have HBW := Lib.hid (hW.out.from HB.out)
      obtain ⟨A', cap', hv, hc, hi⟩ := HA.out
      obtain ⟨x, hx⟩ : ∃ x, xs[k]? = some x := ⟨_, List.getElem?_eq_getElem hlt⟩
      obtain ⟨b, o, hA', hbl, hcell⟩ := hi k x hx
      injection hv with e1 e2 e3
      subst e1
      subst hA'
      obtain ⟨c0, c1, c2, c3⟩ := AcAt.keeps _ _ _ _ _ HBW.out hbl hcell
      have HT := Lib.hid (take_flat (f := encAc) hx)
      have HLT : Hid ((pre ++ (xs.take k).flatMap encAc ++ encAc x).length ≤ 1000000) := Lib.hid (by have := flat_take_le (f := encAc) hx; have := HL.out; simp only [List.length_append] at *; omega)
      have HOK := Lib.hid (HX.out x (List.mem_of_getElem? hx))
      clear hi hx hc e3 e2 hcell
      go_wp2_with fail
      refine (putAct_any W0.heap.size x _ _ _ HOK.out (by have := HBW.out.size; simp; omega) (hown.out.alloc _) HLT.out).mono ?_
      rintro e w1 ⟨v1, rfl, hw1, ho1⟩
      have HW1 := Lib.hid ((hW.out.alloc _).trans hw1)
      have HO1 := Lib.hid ho1
      clear hw1 ho1
      go_wp2_with fail
      go_roundw
      case rel => exact ⟨k + 1, by omega, by go_num, HW1, Lib.hid (by rw [HT.out, ← List.append_assoc]; exact HO1.out)⟩
      case measure => simp [intOf]; omega
    · obtain rfl : k = xs.length := by omega
      have HO1 : Hid (OwnsB W0.heap.size wo u0 (pre ++ xs.flatMap encAc)) := Lib.hid (by have := hown.out; rwa [List.take_length] at this)
      go_wp2_with fail
      go_ret
      exact ⟨_, rfl, hW.out, HO1.out⟩
set_option maxHeartbeats 1000000 in
set_option maxRecDepth 100000 in
theorem putRowAct_any (W0 : World) (vl : Value) (xs : List Ac) (v : Value) (pre : List UInt8) (w : World) (hx : ∀ x ∈ xs, okAc x) (hA : ActsAt W0 vl xs) (hb : Below W0.heap.size W0 w) (ho : OwnsB W0.heap.size w v pre) (hl : (pre ++ encL encAc xs).length ≤ 1000000) (hs : xs.length ≤ 1000) :
    Calls Tryz.prog 53 #[v, vl, .func (.func 54) #[] #[]] w (WrPost W0.heap.size (pre ++ encL encAc xs) w) := by
  have hl1 : pre.length ≤ 1000000 := by simp only [List.length_append] at hl; omega
  have HP := Lib.hid (putNumber_any W0.heap.size (xs.length : Int) v pre w ⟨by omega, by omega⟩ hb.size ho (by omega))
  have HQ := Lib.hid (fun v1 w1 (hw1 : Wrote W0.heap.size w w1) (ho1 : OwnsB W0.heap.size w1 v1 (pre ++ encN (xs.length : Int))) => putActs_any W0 vl xs v1 _ w1 hx hA (hw1.from hb) ho1 (by rw [flat_encL]; exact hl) hs)
  have HE := Lib.hid (flat_encL encAc pre xs)
  obtain ⟨A, cap, rfl, hcap⟩ := RowsAt.slice hA
  clear ho hx hA hb hl
  go_enter Tryz.func53, Tryz.ntmps53
  go_wp2_with fail
  refine HP.out.mono ?_
  rintro e w1 ⟨v1, rfl, hw1, ho1⟩
  have HW1 := Lib.hid hw1
  have HO1 := Lib.hid ho1
  clear hw1 ho1
  go_wp2_with fail
  refine (HQ.out v1 w1 HW1.out HO1.out).mono ?_
  rintro e w2 ⟨v2, rfl, hw2, ho2⟩
  have HW2 := Lib.hid (HW1.out.trans hw2)
  have HO2 := Lib.hid ho2
  clear hw2 ho2
  go_wp2_with fail
  go_ret
  exact ⟨v2, rfl, HW2.out, by rw [← HE.out]; exact HO2.out⟩
theorem stBox_facts {w : World} {g : Nat} {k p : Int} {vi ve vx : Value} (h : Blk w g 40 #[.int .i64 k, .int .i64 p, vi, ve, vx]) : w.cell? ⟨g, 0, none⟩ = some (.int .i64 k) ∧ w.cell? ⟨g, 1, none⟩ = some (.int .i64 p) ∧ w.cell? ⟨g, 2, none⟩ = some (vi) ∧ w.cell? ⟨g, 3, none⟩ = some (ve) ∧ w.cell? ⟨g, 4, none⟩ = some (vx) := ⟨h.cell 0, h.cell 1, h.cell 2, h.cell 3, h.cell 4⟩
theorem trBox_facts {w : World} {g : Nat} {k p : Int} {s : ByteArray} {q : Bool} {vt va : Value} (h : Blk w g 45 #[.int .i64 k, .int .i64 p, .string s, vt, .bool q, va]) : w.cell? ⟨g, 0, none⟩ = some (.int .i64 k) ∧ w.cell? ⟨g, 1, none⟩ = some (.int .i64 p) ∧ w.cell? ⟨g, 2, none⟩ = some (.string s) ∧ w.cell? ⟨g, 3, none⟩ = some (vt) ∧ w.cell? ⟨g, 4, none⟩ = some (.bool q) ∧ w.cell? ⟨g, 5, none⟩ = some (va) := ⟨h.cell 0, h.cell 1, h.cell 2, h.cell 3, h.cell 4, h.cell 5⟩
theorem chBox_facts {w : World} {g : Nat} {k : Int} {vs vt : Value} (h : Blk w g 25 #[.int .i64 k, vs, vt]) : w.cell? ⟨g, 0, none⟩ = some (.int .i64 k) ∧ w.cell? ⟨g, 1, none⟩ = some (vs) ∧ w.cell? ⟨g, 2, none⟩ = some (vt) := ⟨h.cell 0, h.cell 1, h.cell 2⟩
set_option maxHeartbeats 1000000 in
set_option maxRecDepth 100000 in
theorem putState_any (W0 : World) (s : St) (iA eA xA : Option Addr) (icap ecap xcap : Nat) (h0 : okSt s) (hH : StHas W0 (.slice iA s.ini.length icap) (.slice eA s.ent.length ecap) (.slice xA s.exi.length xcap) s) (v : Value) (pre : List UInt8) (w : World) (hb : Below W0.heap.size W0 w) (ho : OwnsB W0.heap.size w v pre) (hl : (pre ++ encSt s).length ≤ 1000000) :
    Calls Tryz.prog 24 #[v, .agg #[.int .i64 s.kind, .int .i64 s.par, .slice iA s.ini.length icap, .slice eA s.ent.length ecap, .slice xA s.exi.length xcap]] w (WrPost W0.heap.size (pre ++ encSt s) w) := by
  unfold encSt at hl ⊢
  simp only [List.length_append] at hl
  obtain ⟨k1, k2, k3, k4, k5⟩ := h0
  obtain ⟨i1, i2, i3⟩ := hH
  have l3 := k3.1
  have l4 := k4.1
  have l5 := k5.1
  have hp1 : -1 ≤ s.par := by have := k2.1; omega
  have hp2 : s.par ≤ 2147483646 := by have := k2.2; omega
  have HW0 := Lib.hid ((Wrote.refl W0.heap.size w).alloc (.cells #[.int .i64 s.kind, .int .i64 s.par, .slice iA s.ini.length icap, .slice eA s.ent.length ecap, .slice xA s.exi.length xcap] 40))
  have HK := Lib.hid (fun W (h : Wrote W0.heap.size (w.alloc (.cells #[.int .i64 s.kind, .int .i64 s.par, .slice iA s.ini.length icap, .slice eA s.ent.length ecap, .slice xA s.exi.length xcap] 40)) W) => h.blk (Blk.new w 40 #[.int .i64 s.kind, .int .i64 s.par, .slice iA s.ini.length icap, .slice eA s.ent.length ecap, .slice xA s.exi.length xcap]) (by decide))
  have HBX := Lib.hid (hb.alloc hb.size (.cells #[.int .i64 s.kind, .int .i64 s.par, .slice iA s.ini.length icap, .slice eA s.ent.length ecap, .slice xA s.exi.length xcap] 40))
  have HOX := Lib.hid (World.ownsRow.alloc ho (.cells #[.int .i64 s.kind, .int .i64 s.par, .slice iA s.ini.length icap, .slice eA s.ent.length ecap, .slice xA s.exi.length xcap] 40))
  have H0 := Lib.hid (fun v1 W (h : Wrote W0.heap.size (w.alloc (.cells #[.int .i64 s.kind, .int .i64 s.par, .slice iA s.ini.length icap, .slice eA s.ent.length ecap, .slice xA s.exi.length xcap] 40)) W) (ho1 : OwnsB W0.heap.size W v1 (pre)) => putNumber_any W0.heap.size s.kind v1 _ W k1 (h.from HBX.out).size ho1 (by (try simp only [List.length_append]); omega))
  have H1 := Lib.hid (fun v1 W (h : Wrote W0.heap.size (w.alloc (.cells #[.int .i64 s.kind, .int .i64 s.par, .slice iA s.ini.length icap, .slice eA s.ent.length ecap, .slice xA s.exi.length xcap] 40)) W) (ho1 : OwnsB W0.heap.size W v1 (pre ++ encN s.kind)) => putNumber_any W0.heap.size (s.par + 1) v1 _ W k2 (h.from HBX.out).size ho1 (by (try simp only [List.length_append]); omega))
  have H2 := Lib.hid (fun v1 W (h : Wrote W0.heap.size (w.alloc (.cells #[.int .i64 s.kind, .int .i64 s.par, .slice iA s.ini.length icap, .slice eA s.ent.length ecap, .slice xA s.exi.length xcap] 40)) W) (ho1 : OwnsB W0.heap.size W v1 (pre ++ encN s.kind ++ encN (s.par + 1))) => putRowInt_any W0 _ s.ini v1 _ W k3.2 i1 (h.from HBX.out) ho1 (by (try simp only [List.length_append]); omega) (by omega))
  have H3 := Lib.hid (fun v1 W (h : Wrote W0.heap.size (w.alloc (.cells #[.int .i64 s.kind, .int .i64 s.par, .slice iA s.ini.length icap, .slice eA s.ent.length ecap, .slice xA s.exi.length xcap] 40)) W) (ho1 : OwnsB W0.heap.size W v1 (pre ++ encN s.kind ++ encN (s.par + 1) ++ encL encN s.ini)) => putRowAct_any W0 _ s.ent v1 _ W k4.2 i2 (h.from HBX.out) ho1 (by (try simp only [List.length_append]); omega) (by omega))
  have H4 := Lib.hid (fun v1 W (h : Wrote W0.heap.size (w.alloc (.cells #[.int .i64 s.kind, .int .i64 s.par, .slice iA s.ini.length icap, .slice eA s.ent.length ecap, .slice xA s.exi.length xcap] 40)) W) (ho1 : OwnsB W0.heap.size W v1 (pre ++ encN s.kind ++ encN (s.par + 1) ++ encL encN s.ini ++ encL encAc s.ent)) => putRowAct_any W0 _ s.exi v1 _ W k5.2 i3 (h.from HBX.out) ho1 (by (try simp only [List.length_append]); omega) (by omega))
  obtain ⟨c0, c1, c2, c3, c4⟩ := stBox_facts (Blk.new w 40 #[.int .i64 s.kind, .int .i64 s.par, .slice iA s.ini.length icap, .slice eA s.ent.length ecap, .slice xA s.exi.length xcap])
  clear ho hb k1 k2 k3 k4 k5 i1 i2 i3 l3 l4 l5 hl
  go_enter Tryz.func24, Tryz.ntmps24
  go_wp2_with fail
  refine (H0.out _ _ (Wrote.refl _ _) HOX.out).mono ?_
  rintro e w1 ⟨v1, rfl, hw1, ho1⟩
  have HW1 := Lib.hid (hw1)
  have HO1 := Lib.hid ho1
  clear hw1 ho1 c0 c1 c2 c3 c4
  obtain ⟨c0, c1, c2, c3, c4⟩ := stBox_facts (HK.out _ HW1.out)
  go_wp2_with fail
  refine (H1.out _ _ HW1.out HO1.out).mono ?_
  rintro e w2 ⟨v2, rfl, hw1, ho1⟩
  have HW2 := Lib.hid (HW1.out.trans hw1)
  have HO2 := Lib.hid ho1
  clear hw1 ho1 c0 c1 c2 c3 c4
  obtain ⟨c0, c1, c2, c3, c4⟩ := stBox_facts (HK.out _ HW2.out)
  go_wp2_with fail
  refine (H2.out _ _ HW2.out HO2.out).mono ?_
  rintro e w3 ⟨v3, rfl, hw1, ho1⟩
  have HW3 := Lib.hid (HW2.out.trans hw1)
  have HO3 := Lib.hid ho1
  clear hw1 ho1 c0 c1 c2 c3 c4
  obtain ⟨c0, c1, c2, c3, c4⟩ := stBox_facts (HK.out _ HW3.out)
  go_wp2_with fail
  refine (H3.out _ _ HW3.out HO3.out).mono ?_
  rintro e w4 ⟨v4, rfl, hw1, ho1⟩
  have HW4 := Lib.hid (HW3.out.trans hw1)
  have HO4 := Lib.hid ho1
  clear hw1 ho1 c0 c1 c2 c3 c4
  obtain ⟨c0, c1, c2, c3, c4⟩ := stBox_facts (HK.out _ HW4.out)
  go_wp2_with fail
  refine (H4.out _ _ HW4.out HO4.out).mono ?_
  rintro e w5 ⟨v5, rfl, hw1, ho1⟩
  have HW5 := Lib.hid (HW4.out.trans hw1)
  have HO5 := Lib.hid ho1
  clear hw1 ho1 c0 c1 c2 c3 c4
  go_wp2_with fail
  go_ret
  exact ⟨v5, rfl, HW0.out.trans HW5.out, by simpa only [List.append_assoc] using HO5.out⟩
set_option maxHeartbeats 1000000 in
set_option maxRecDepth 100000 in
theorem putTrans_any (W0 : World) (t : Tr) (tA aA : Option Addr) (tcap acap : Nat) (h0 : okTr t) (hH : TrHas W0 (.slice tA t.tgts.length tcap) (.slice aA t.acts.length acap) t) (v : Value) (pre : List UInt8) (w : World) (hb : Below W0.heap.size W0 w) (ho : OwnsB W0.heap.size w v pre) (hl : (pre ++ encTr t).length ≤ 1000000) :
    Calls Tryz.prog 26 #[v, .agg #[.int .i64 t.src, .int .i64 t.ev, .string t.guard, .slice tA t.tgts.length tcap, .bool t.inner, .slice aA t.acts.length acap]] w (WrPost W0.heap.size (pre ++ encTr t) w) := by
  unfold encTr at hl ⊢
  simp only [List.length_append] at hl
  obtain ⟨k1, k2, k3, k4, k5⟩ := h0
  obtain ⟨i1, i2⟩ := hH
  have l4 := k4.1
  have l5 := k5.1
  have HW0 := Lib.hid ((Wrote.refl W0.heap.size w).alloc (.cells #[.int .i64 t.src, .int .i64 t.ev, .string t.guard, .slice tA t.tgts.length tcap, .bool t.inner, .slice aA t.acts.length acap] 45))
  have HK := Lib.hid (fun W (h : Wrote W0.heap.size (w.alloc (.cells #[.int .i64 t.src, .int .i64 t.ev, .string t.guard, .slice tA t.tgts.length tcap, .bool t.inner, .slice aA t.acts.length acap] 45)) W) => h.blk (Blk.new w 45 #[.int .i64 t.src, .int .i64 t.ev, .string t.guard, .slice tA t.tgts.length tcap, .bool t.inner, .slice aA t.acts.length acap]) (by decide))
  have HBX := Lib.hid (hb.alloc hb.size (.cells #[.int .i64 t.src, .int .i64 t.ev, .string t.guard, .slice tA t.tgts.length tcap, .bool t.inner, .slice aA t.acts.length acap] 45))
  have HOX := Lib.hid (World.ownsRow.alloc ho (.cells #[.int .i64 t.src, .int .i64 t.ev, .string t.guard, .slice tA t.tgts.length tcap, .bool t.inner, .slice aA t.acts.length acap] 45))
  have H0 := Lib.hid (fun v1 W (h : Wrote W0.heap.size (w.alloc (.cells #[.int .i64 t.src, .int .i64 t.ev, .string t.guard, .slice tA t.tgts.length tcap, .bool t.inner, .slice aA t.acts.length acap] 45)) W) (ho1 : OwnsB W0.heap.size W v1 (pre)) => putNumber_any W0.heap.size t.src v1 _ W k1 (h.from HBX.out).size ho1 (by (try simp only [List.length_append]); omega))
  have H1 := Lib.hid (fun v1 W (h : Wrote W0.heap.size (w.alloc (.cells #[.int .i64 t.src, .int .i64 t.ev, .string t.guard, .slice tA t.tgts.length tcap, .bool t.inner, .slice aA t.acts.length acap] 45)) W) (ho1 : OwnsB W0.heap.size W v1 (pre ++ encN t.src)) => putNumber_any W0.heap.size t.ev v1 _ W k2 (h.from HBX.out).size ho1 (by (try simp only [List.length_append]); omega))
  have H2 := Lib.hid (fun v1 W (h : Wrote W0.heap.size (w.alloc (.cells #[.int .i64 t.src, .int .i64 t.ev, .string t.guard, .slice tA t.tgts.length tcap, .bool t.inner, .slice aA t.acts.length acap] 45)) W) (ho1 : OwnsB W0.heap.size W v1 (pre ++ encN t.src ++ encN t.ev)) => putText_any W0.heap.size t.guard v1 _ W k3 (h.from HBX.out).size ho1 (by (try simp only [List.length_append]); omega))
  have H3 := Lib.hid (fun v1 W (h : Wrote W0.heap.size (w.alloc (.cells #[.int .i64 t.src, .int .i64 t.ev, .string t.guard, .slice tA t.tgts.length tcap, .bool t.inner, .slice aA t.acts.length acap] 45)) W) (ho1 : OwnsB W0.heap.size W v1 (pre ++ encN t.src ++ encN t.ev ++ encS t.guard)) => putRowInt_any W0 _ t.tgts v1 _ W k4.2 i1 (h.from HBX.out) ho1 (by (try simp only [List.length_append]); omega) (by omega))
  have H4 := Lib.hid (fun v1 W (h : Wrote W0.heap.size (w.alloc (.cells #[.int .i64 t.src, .int .i64 t.ev, .string t.guard, .slice tA t.tgts.length tcap, .bool t.inner, .slice aA t.acts.length acap] 45)) W) (ho1 : OwnsB W0.heap.size W v1 (pre ++ encN t.src ++ encN t.ev ++ encS t.guard ++ encL encN t.tgts)) => putTruth_any W0.heap.size t.inner v1 _ W (h.from HBX.out).size ho1 (by (try simp only [List.length_append]); omega))
  have H5 := Lib.hid (fun v1 W (h : Wrote W0.heap.size (w.alloc (.cells #[.int .i64 t.src, .int .i64 t.ev, .string t.guard, .slice tA t.tgts.length tcap, .bool t.inner, .slice aA t.acts.length acap] 45)) W) (ho1 : OwnsB W0.heap.size W v1 (pre ++ encN t.src ++ encN t.ev ++ encS t.guard ++ encL encN t.tgts ++ encB t.inner)) => putRowAct_any W0 _ t.acts v1 _ W k5.2 i2 (h.from HBX.out) ho1 (by (try simp only [List.length_append]); omega) (by omega))
  obtain ⟨c0, c1, c2, c3, c4, c5⟩ := trBox_facts (Blk.new w 45 #[.int .i64 t.src, .int .i64 t.ev, .string t.guard, .slice tA t.tgts.length tcap, .bool t.inner, .slice aA t.acts.length acap])
  clear ho hb k1 k2 k3 k4 k5 i1 i2 l4 l5 hl
  go_enter Tryz.func26, Tryz.ntmps26
  go_wp2_with fail
  refine (H0.out _ _ (Wrote.refl _ _) HOX.out).mono ?_
  rintro e w1 ⟨v1, rfl, hw1, ho1⟩
  have HW1 := Lib.hid (hw1)
  have HO1 := Lib.hid ho1
  clear hw1 ho1 c0 c1 c2 c3 c4 c5
  obtain ⟨c0, c1, c2, c3, c4, c5⟩ := trBox_facts (HK.out _ HW1.out)
  go_wp2_with fail
  refine (H1.out _ _ HW1.out HO1.out).mono ?_
  rintro e w2 ⟨v2, rfl, hw1, ho1⟩
  have HW2 := Lib.hid (HW1.out.trans hw1)
  have HO2 := Lib.hid ho1
  clear hw1 ho1 c0 c1 c2 c3 c4 c5
  obtain ⟨c0, c1, c2, c3, c4, c5⟩ := trBox_facts (HK.out _ HW2.out)
  go_wp2_with fail
  refine (H2.out _ _ HW2.out HO2.out).mono ?_
  rintro e w3 ⟨v3, rfl, hw1, ho1⟩
  have HW3 := Lib.hid (HW2.out.trans hw1)
  have HO3 := Lib.hid ho1
  clear hw1 ho1 c0 c1 c2 c3 c4 c5
  obtain ⟨c0, c1, c2, c3, c4, c5⟩ := trBox_facts (HK.out _ HW3.out)
  go_wp2_with fail
  refine (H3.out _ _ HW3.out HO3.out).mono ?_
  rintro e w4 ⟨v4, rfl, hw1, ho1⟩
  have HW4 := Lib.hid (HW3.out.trans hw1)
  have HO4 := Lib.hid ho1
  clear hw1 ho1 c0 c1 c2 c3 c4 c5
  obtain ⟨c0, c1, c2, c3, c4, c5⟩ := trBox_facts (HK.out _ HW4.out)
  go_wp2_with fail
  refine (H4.out _ _ HW4.out HO4.out).mono ?_
  rintro e w5 ⟨v5, rfl, hw1, ho1⟩
  have HW5 := Lib.hid (HW4.out.trans hw1)
  have HO5 := Lib.hid ho1
  clear hw1 ho1 c0 c1 c2 c3 c4 c5
  obtain ⟨c0, c1, c2, c3, c4, c5⟩ := trBox_facts (HK.out _ HW5.out)
  go_wp2_with fail
  refine (H5.out _ _ HW5.out HO5.out).mono ?_
  rintro e w6 ⟨v6, rfl, hw1, ho1⟩
  have HW6 := Lib.hid (HW5.out.trans hw1)
  have HO6 := Lib.hid ho1
  clear hw1 ho1 c0 c1 c2 c3 c4 c5
  go_wp2_with fail
  go_ret
  exact ⟨v6, rfl, HW0.out.trans HW6.out, by simpa only [List.append_assoc] using HO6.out⟩
set_option maxHeartbeats 1000000 in
set_option maxRecDepth 100000 in
theorem putStates_any (W0 : World) (vl : Value) (xs : List St) (v : Value) (pre : List UInt8) (w : World) (hx : ∀ x ∈ xs, okSt x) (hA : StsAt W0 vl xs) (hb : Below W0.heap.size W0 w) (ho : OwnsB W0.heap.size w v pre) (hl : (pre ++ xs.flatMap encSt).length ≤ 1000000) (hs : xs.length ≤ 1000) :
    Calls Tryz.prog 23 #[v, vl, .func (.func 24) #[] #[]] w (WrPost W0.heap.size (pre ++ xs.flatMap encSt) w) := by
  have hE := enters24
  unfold Enters at hE
  have HX := Lib.hid hx
  have HA := Lib.hid hA
  have HB := Lib.hid hb
  have HO := Lib.hid ho
  have HL := Lib.hid hl
  obtain ⟨A, cap, rfl, hcap⟩ := RowsAt.slice hA
  clear hx hA hb ho hl
  go_enter Tryz.func23, Tryz.ntmps23
  go_wp2_with fail
  go_loopw [0, 11] (fun vb i wr => ∃ (k : Nat), k ≤ xs.length ∧ i = .int .i64 (k : Int) ∧ Hid (Wrote W0.heap.size w wr) ∧ Hid (OwnsB W0.heap.size wr vb (pre ++ (xs.take k).flatMap encSt))) (fun _ i _ => xs.length - (intOf i).toNat)
  case atStart => exact ⟨0, Nat.zero_le _, rfl, Lib.hid (Wrote.refl _ _), by simpa using HO⟩
  case round =>
    obtain ⟨k, hk, rfl, hW, hown⟩ := hrel
    obtain ⟨wo, rfl⟩ : ∃ wo : World, wo = wr := ⟨_, rfl⟩
    by_cases hlt : k < xs.length
    · have HBW := Lib.hid (hW.out.from HB.out)
      obtain ⟨A', cap', hv, hc, hi⟩ := HA.out
      obtain ⟨x, hx⟩ : ∃ x, xs[k]? = some x := ⟨_, List.getElem?_eq_getElem hlt⟩
      obtain ⟨b, o, hA', hbl, hcell⟩ := hi k x hx
      injection hv with e1 e2 e3
      subst e1
      subst hA'
      obtain ⟨vi, ve, vx, hst, hhas⟩ := hcell
      obtain ⟨iA, icap, eA, ecap, xA, xcap, rfl, rfl, rfl⟩ := hhas.slices
      obtain ⟨c0, c1, c2, c3, c4⟩ := hst.below HBW.out hbl
      have HH := Lib.hid hhas
      clear hst hhas
      have HT := Lib.hid (take_flat (f := encSt) hx)
      have HLT : Hid ((pre ++ (xs.take k).flatMap encSt ++ encSt x).length ≤ 1000000) := Lib.hid (by have := flat_take_le (f := encSt) hx; have := HL.out; simp only [List.length_append] at *; omega)
      have HOK := Lib.hid (HX.out x (List.mem_of_getElem? hx))
      clear hi hx hc e3 e2
      go_wp2_with fail
      refine (putState_any W0 x iA eA xA icap ecap xcap HOK.out HH.out _ _ _ (HBW.out.alloc HBW.out.size _) (hown.out.alloc _) HLT.out).mono ?_
      rintro e w1 ⟨v1, rfl, hw1, ho1⟩
      have HW1 := Lib.hid ((hW.out.alloc _).trans hw1)
      have HO1 := Lib.hid ho1
      clear hw1 ho1
      go_wp2_with fail
      go_roundw
      case rel => exact ⟨k + 1, by omega, by go_num, HW1, Lib.hid (by rw [HT.out, ← List.append_assoc]; exact HO1.out)⟩
      case measure => simp [intOf]; omega
    · obtain rfl : k = xs.length := by omega
      have HO1 : Hid (OwnsB W0.heap.size wo u0 (pre ++ xs.flatMap encSt)) := Lib.hid (by have := hown.out; rwa [List.take_length] at this)
      go_wp2_with fail
      go_ret
      exact ⟨_, rfl, hW.out, HO1.out⟩
set_option maxHeartbeats 1000000 in
set_option maxRecDepth 100000 in
theorem putTranss_any (W0 : World) (vl : Value) (xs : List Tr) (v : Value) (pre : List UInt8) (w : World) (hx : ∀ x ∈ xs, okTr x) (hA : TrsAt W0 vl xs) (hb : Below W0.heap.size W0 w) (ho : OwnsB W0.heap.size w v pre) (hl : (pre ++ xs.flatMap encTr).length ≤ 1000000) (hs : xs.length ≤ 1000) :
    Calls Tryz.prog 25 #[v, vl, .func (.func 26) #[] #[]] w (WrPost W0.heap.size (pre ++ xs.flatMap encTr) w) := by
  have hE := enters26
  unfold Enters at hE
  have HX := Lib.hid hx
  have HA := Lib.hid hA
  have HB := Lib.hid hb
  have HO := Lib.hid ho
  have HL := Lib.hid hl
  obtain ⟨A, cap, rfl, hcap⟩ := RowsAt.slice hA
  clear hx hA hb ho hl
  go_enter Tryz.func25, Tryz.ntmps25
  go_wp2_with fail
  go_loopw [0, 11] (fun vb i wr => ∃ (k : Nat), k ≤ xs.length ∧ i = .int .i64 (k : Int) ∧ Hid (Wrote W0.heap.size w wr) ∧ Hid (OwnsB W0.heap.size wr vb (pre ++ (xs.take k).flatMap encTr))) (fun _ i _ => xs.length - (intOf i).toNat)
  case atStart => exact ⟨0, Nat.zero_le _, rfl, Lib.hid (Wrote.refl _ _), by simpa using HO⟩
  case round =>
    obtain ⟨k, hk, rfl, hW, hown⟩ := hrel
    obtain ⟨wo, rfl⟩ : ∃ wo : World, wo = wr := ⟨_, rfl⟩
    by_cases hlt : k < xs.length
    · have HBW := Lib.hid (hW.out.from HB.out)
      obtain ⟨A', cap', hv, hc, hi⟩ := HA.out
      obtain ⟨x, hx⟩ : ∃ x, xs[k]? = some x := ⟨_, List.getElem?_eq_getElem hlt⟩
      obtain ⟨b, o, hA', hbl, hcell⟩ := hi k x hx
      injection hv with e1 e2 e3
      subst e1
      subst hA'
      obtain ⟨vt, va, hst, hhas⟩ := hcell
      obtain ⟨tA, tcap, aA, acap, rfl, rfl⟩ := hhas.slices
      obtain ⟨c0, c1, c2, c3, c4, c5⟩ := hst.below HBW.out hbl
      have HH := Lib.hid hhas
      clear hst hhas
      have HT := Lib.hid (take_flat (f := encTr) hx)
      have HLT : Hid ((pre ++ (xs.take k).flatMap encTr ++ encTr x).length ≤ 1000000) := Lib.hid (by have := flat_take_le (f := encTr) hx; have := HL.out; simp only [List.length_append] at *; omega)
      have HOK := Lib.hid (HX.out x (List.mem_of_getElem? hx))
      clear hi hx hc e3 e2
      go_wp2_with fail
      refine (putTrans_any W0 x tA aA tcap acap HOK.out HH.out _ _ _ (HBW.out.alloc HBW.out.size _) (hown.out.alloc _) HLT.out).mono ?_
      rintro e w1 ⟨v1, rfl, hw1, ho1⟩
      have HW1 := Lib.hid ((hW.out.alloc _).trans hw1)
      have HO1 := Lib.hid ho1
      clear hw1 ho1
      go_wp2_with fail
      go_roundw
      case rel => exact ⟨k + 1, by omega, by go_num, HW1, Lib.hid (by rw [HT.out, ← List.append_assoc]; exact HO1.out)⟩
      case measure => simp [intOf]; omega
    · obtain rfl : k = xs.length := by omega
      have HO1 : Hid (OwnsB W0.heap.size wo u0 (pre ++ xs.flatMap encTr)) := Lib.hid (by have := hown.out; rwa [List.take_length] at this)
      go_wp2_with fail
      go_ret
      exact ⟨_, rfl, hW.out, HO1.out⟩
set_option maxHeartbeats 1000000 in
set_option maxRecDepth 100000 in
theorem putChart_any (W0 : World) (C : Ch) (sA tA : Option Addr) (scap tcap : Nat) (h0 : okCh C) (hH : ChHas W0 (.slice sA C.sts.length scap) (.slice tA C.trs.length tcap) C) (v : Value) (pre : List UInt8) (w : World) (hb : Below W0.heap.size W0 w) (ho : OwnsB W0.heap.size w v pre) (hl : (pre ++ encCh C).length ≤ 1000000) :
    Calls Tryz.prog 12 #[v, .agg #[.int .i64 C.vars, .slice sA C.sts.length scap, .slice tA C.trs.length tcap]] w (WrPost W0.heap.size (pre ++ encCh C) w) := by
  unfold encCh at hl ⊢
  simp only [List.length_append] at hl
  obtain ⟨k1, k2, k3⟩ := h0
  obtain ⟨i1, i2⟩ := hH
  have l2 := k2.1
  have l3 := k3.1
  have HW0 := Lib.hid ((Wrote.refl W0.heap.size w).alloc (.cells #[.int .i64 C.vars, .slice sA C.sts.length scap, .slice tA C.trs.length tcap] 25))
  have HK := Lib.hid (fun W (h : Wrote W0.heap.size (w.alloc (.cells #[.int .i64 C.vars, .slice sA C.sts.length scap, .slice tA C.trs.length tcap] 25)) W) => h.blk (Blk.new w 25 #[.int .i64 C.vars, .slice sA C.sts.length scap, .slice tA C.trs.length tcap]) (by decide))
  have HBX := Lib.hid (hb.alloc hb.size (.cells #[.int .i64 C.vars, .slice sA C.sts.length scap, .slice tA C.trs.length tcap] 25))
  have HOX := Lib.hid (World.ownsRow.alloc ho (.cells #[.int .i64 C.vars, .slice sA C.sts.length scap, .slice tA C.trs.length tcap] 25))
  have H0 := Lib.hid (fun v1 W (h : Wrote W0.heap.size (w.alloc (.cells #[.int .i64 C.vars, .slice sA C.sts.length scap, .slice tA C.trs.length tcap] 25)) W) (ho1 : OwnsB W0.heap.size W v1 (pre)) => putNumber_any W0.heap.size C.vars v1 _ W k1 (h.from HBX.out).size ho1 (by (try simp only [List.length_append]); omega))
  have H1 := Lib.hid (fun v1 W (h : Wrote W0.heap.size (w.alloc (.cells #[.int .i64 C.vars, .slice sA C.sts.length scap, .slice tA C.trs.length tcap] 25)) W) (ho1 : OwnsB W0.heap.size W v1 (pre ++ encN C.vars)) => putNumber_any W0.heap.size (C.sts.length : Int) v1 _ W ⟨by omega, by omega⟩ (h.from HBX.out).size ho1 (by (try simp only [List.length_append]); omega))
  have H2 := Lib.hid (fun v1 W (h : Wrote W0.heap.size (w.alloc (.cells #[.int .i64 C.vars, .slice sA C.sts.length scap, .slice tA C.trs.length tcap] 25)) W) (ho1 : OwnsB W0.heap.size W v1 (pre ++ encN C.vars ++ encN (C.sts.length : Int))) => putNumber_any W0.heap.size (C.trs.length : Int) v1 _ W ⟨by omega, by omega⟩ (h.from HBX.out).size ho1 (by (try simp only [List.length_append]); omega))
  have H3 := Lib.hid (fun v1 W (h : Wrote W0.heap.size (w.alloc (.cells #[.int .i64 C.vars, .slice sA C.sts.length scap, .slice tA C.trs.length tcap] 25)) W) (ho1 : OwnsB W0.heap.size W v1 (pre ++ encN C.vars ++ encN (C.sts.length : Int) ++ encN (C.trs.length : Int))) => putStates_any W0 _ C.sts v1 _ W k2.2 i1 (h.from HBX.out) ho1 (by (try simp only [List.length_append]); omega) (by omega))
  have H4 := Lib.hid (fun v1 W (h : Wrote W0.heap.size (w.alloc (.cells #[.int .i64 C.vars, .slice sA C.sts.length scap, .slice tA C.trs.length tcap] 25)) W) (ho1 : OwnsB W0.heap.size W v1 (pre ++ encN C.vars ++ encN (C.sts.length : Int) ++ encN (C.trs.length : Int) ++ C.sts.flatMap encSt)) => putTranss_any W0 _ C.trs v1 _ W k3.2 i2 (h.from HBX.out) ho1 (by (try simp only [List.length_append]); omega) (by omega))
  obtain ⟨c0, c1, c2⟩ := chBox_facts (Blk.new w 25 #[.int .i64 C.vars, .slice sA C.sts.length scap, .slice tA C.trs.length tcap])
  clear ho hb k1 k2 k3 i1 i2 l2 l3 hl
  go_enter Tryz.func12, Tryz.ntmps12
  go_wp2_with fail
  refine (H0.out _ _ (Wrote.refl _ _) HOX.out).mono ?_
  rintro e w1 ⟨v1, rfl, hw1, ho1⟩
  have HW1 := Lib.hid (hw1)
  have HO1 := Lib.hid ho1
  clear hw1 ho1 c0 c1 c2
  obtain ⟨c0, c1, c2⟩ := chBox_facts (HK.out _ HW1.out)
  go_wp2_with fail
  refine (H1.out _ _ HW1.out HO1.out).mono ?_
  rintro e w2 ⟨v2, rfl, hw1, ho1⟩
  have HW2 := Lib.hid (HW1.out.trans hw1)
  have HO2 := Lib.hid ho1
  clear hw1 ho1 c0 c1 c2
  obtain ⟨c0, c1, c2⟩ := chBox_facts (HK.out _ HW2.out)
  go_wp2_with fail
  refine (H2.out _ _ HW2.out HO2.out).mono ?_
  rintro e w3 ⟨v3, rfl, hw1, ho1⟩
  have HW3 := Lib.hid (HW2.out.trans hw1)
  have HO3 := Lib.hid ho1
  clear hw1 ho1 c0 c1 c2
  obtain ⟨c0, c1, c2⟩ := chBox_facts (HK.out _ HW3.out)
  go_wp2_with fail
  refine (H3.out _ _ HW3.out HO3.out).mono ?_
  rintro e w4 ⟨v4, rfl, hw1, ho1⟩
  have HW4 := Lib.hid (HW3.out.trans hw1)
  have HO4 := Lib.hid ho1
  clear hw1 ho1 c0 c1 c2
  obtain ⟨c0, c1, c2⟩ := chBox_facts (HK.out _ HW4.out)
  go_wp2_with fail
  refine (H4.out _ _ HW4.out HO4.out).mono ?_
  rintro e w5 ⟨v5, rfl, hw1, ho1⟩
  have HW5 := Lib.hid (HW4.out.trans hw1)
  have HO5 := Lib.hid ho1
  clear hw1 ho1 c0 c1 c2
  go_wp2_with fail
  go_ret
  exact ⟨v5, rfl, HW0.out.trans HW5.out, by simpa only [List.append_assoc] using HO5.out⟩
end Go.Proofs.YtkdgcdcakioajaaGreatDoor
