/- The contract of the document's Same at two charts that are the same, in whatever memory. -/
import Derived.Test.YteepfpmeijnkbaaGreatDoorCref
import Derived.Test.YteepfpmeijnkbaaGreatDoorCchk
import Derived.Test.YteepfpmeijnkbaaGreatDoorCarg
import Derived.Laws.StructEq
namespace Go.Proofs.YteepfpmeijnkbaaGreatDoor
open Go.ChangeShapes Go.WideShapes Go.ChangeAt Go.RowKit
set_option linter.unusedVariables false
theorem blk5_facts {w : World} {g t : Nat} {a b c d e : Value} (h : Blk w g t #[a, b, c, d, e]) : (w.cell? ⟨g, 0, none⟩ = some a ∧ w.cell? ⟨g, 1, none⟩ = some b ∧ w.cell? ⟨g, 2, none⟩ = some c ∧ w.cell? ⟨g, 3, none⟩ = some d ∧ w.cell? ⟨g, 4, none⟩ = some e) ∧ w.frozen? ⟨g, 0, none⟩ = false ∧ w.frozen? ⟨g, 1, none⟩ = false ∧ w.frozen? ⟨g, 2, none⟩ = false ∧ w.frozen? ⟨g, 3, none⟩ = false ∧ w.frozen? ⟨g, 4, none⟩ = false :=
  ⟨⟨h.cell 0, h.cell 1, h.cell 2, h.cell 3, h.cell 4⟩, h.frozen 0, h.frozen 1, h.frozen 2, h.frozen 3, h.frozen 4⟩
theorem blk6_facts {w : World} {g t : Nat} {a b c d e f : Value} (h : Blk w g t #[a, b, c, d, e, f]) : (w.cell? ⟨g, 0, none⟩ = some a ∧ w.cell? ⟨g, 1, none⟩ = some b ∧ w.cell? ⟨g, 2, none⟩ = some c ∧ w.cell? ⟨g, 3, none⟩ = some d ∧ w.cell? ⟨g, 4, none⟩ = some e ∧ w.cell? ⟨g, 5, none⟩ = some f) ∧ w.frozen? ⟨g, 0, none⟩ = false ∧ w.frozen? ⟨g, 1, none⟩ = false ∧ w.frozen? ⟨g, 2, none⟩ = false ∧ w.frozen? ⟨g, 3, none⟩ = false ∧ w.frozen? ⟨g, 4, none⟩ = false ∧ w.frozen? ⟨g, 5, none⟩ = false :=
  ⟨⟨h.cell 0, h.cell 1, h.cell 2, h.cell 3, h.cell 4, h.cell 5⟩, h.frozen 0, h.frozen 1, h.frozen 2, h.frozen 3, h.frozen 4, h.frozen 5⟩

theorem fields60 : Tryz.prog.underlying 61 = some (.struct (Tryz.prog.fieldsOf 61)) := by kernel_rfl
theorem held60 : Tryz.prog.stoodInHeld 61 = false := by kernel_rfl
theorem eql_ac (a b c : Int) (s : ByteArray) (w : World) : (binOp .eql 61 (.agg #[.int .i64 a, .int .i64 b, .int .i64 c, .string s]) (.agg #[.int .i64 a, .int .i64 b, .int .i64 c, .string s])).run Tryz.prog w = .ok (.bool true) w := by
  rw [run_eql_struct, run_equalIn_agg _ _ _ _ _ fields60 held60]
  simp [go_sem]
theorem neq_ac (a b c : Int) (s : ByteArray) (w : World) : (binOp .neq 61 (.agg #[.int .i64 a, .int .i64 b, .int .i64 c, .string s]) (.agg #[.int .i64 a, .int .i64 b, .int .i64 c, .string s])).run Tryz.prog w = .ok (.bool false) w := by
  rw [run_neq_struct, run_equalIn_agg _ _ _ _ _ fields60 held60]
  simp [go_sem]
set_option maxHeartbeats 1000000 in
set_option maxRecDepth 100000 in
/-- SameActs at the same actions -/
theorem acts_same (v u : Value) (L : List Ac) (w : World) (hv : ActsAt w v L) (hu : ActsAt w u L) (hl : L.length ≤ 1000) :
    Calls Tryz.prog 27 #[v, u] w fun e w' => e = .returned (.bool true) ∧ Below w.heap.size w w' := by
  obtain ⟨A, cap, rfl, hcap, he⟩ := hv
  obtain ⟨A', cap', rfl, hcap', he'⟩ := hu
  have HE := Lib.hid he
  have HE' := Lib.hid he'
  have hne := fun a b c s w => neq_ac a b c s w
  clear he he'
  go_enter Tryz.func27, Tryz.ntmps27
  go_wp2_with fail
  go_loopw [5] (fun i wr => ∃ k : Nat, k ≤ L.length ∧ i = .int .i64 (k : Int) ∧ Below w.heap.size w wr) (fun i _ => L.length - (intOf i).toNat)
  case atStart => exact ⟨0, Nat.zero_le _, rfl, Below.refl _ _⟩
  case round =>
    obtain ⟨k, hk, rfl, hb⟩ := hrel
    obtain ⟨wo, rfl⟩ : ∃ wo : World, wo = wr := ⟨_, rfl⟩
    by_cases hlt : k < L.length
    · obtain ⟨b, o, rfl, hbl, hc⟩ := HE.out k _ (List.getElem?_eq_getElem hlt)
      obtain ⟨b', o', rfl, hbl', hc'⟩ := HE'.out k _ (List.getElem?_eq_getElem hlt)
      obtain ⟨c0, c1, c2, c3⟩ := AcAt.keeps w wo b _ _ hb hbl hc
      obtain ⟨d0, d1, d2, d3⟩ := AcAt.keeps w wo b' _ _ hb hbl' hc'
      generalize L[k] = x at *
      have HB := Lib.hid hb
      clear hc hc' hb
      go_wp2_with fail
      go_quiet (fail)
      go_wp2
      go_roundw
      case rel => exact ⟨k + 1, by omega, by go_num, below_drewN HB.out _⟩
      case measure => simp [intOf]; omega
    · obtain rfl : k = L.length := by omega
      go_wp2_with fail
      go_ret
      exact ⟨rfl, hb⟩
theorem trAt_nat' {T : List Tr} {k : Nat} (h : k < T.length) : T[k]? = some (T.getD k noTr) := by simp [List.getD, List.getElem?_eq_getElem h]
theorem ChHas.smt {w : World} {vs : Value} {C : Ch} {A : Option Addr} {n cap : Nat} (h : ChHas w vs (.slice A n cap) C) {k : Nat} (hk : k < C.trs.length) :
    ∃ (b o : Nat) (vt va : Value), A = some ⟨b, o, none⟩ ∧ b < w.heap.size ∧ TrC w b (o + k * 6) (C.trs.getD k noTr) vt va ∧ TrHas w vt va (C.trs.getD k noTr) := by
  obtain ⟨_, ⟨A', cap', hv, hc, hi⟩⟩ := h
  injection hv with e1 e2 e3
  subst e1
  obtain ⟨b, o, hA, hlt, vt, va, h0, h1⟩ := hi k _ (trAt_nat' hk)
  exact ⟨b, o, vt, va, hA, hlt, h0, h1⟩
theorem ChHas.sms {w : World} {vt : Value} {C : Ch} {A : Option Addr} {n cap : Nat} (h : ChHas w (.slice A n cap) vt C) {k : Nat} (hk : k < C.sts.length) :
    ∃ (b o : Nat) (vi ve vx : Value), A = some ⟨b, o, none⟩ ∧ b < w.heap.size ∧ StC w b (o + k * 5) (C.sts.getD k noSt) vi ve vx ∧ StHas w vi ve vx (C.sts.getD k noSt) := by
  obtain ⟨⟨A', cap', hv, hc, hi⟩, _⟩ := h
  injection hv with e1 e2 e3
  subst e1
  obtain ⟨b, o, hA, hlt, vi, ve, vx, h0, h1⟩ := hi k _ (by simp [List.getD, List.getElem?_eq_getElem hk] : C.sts[k]? = some (C.sts.getD k noSt))
  exact ⟨b, o, vi, ve, vx, hA, hlt, h0, h1⟩
theorem few_sms {C : Ch} (h : fewB C = true) {k : Nat} (hk : k < C.sts.length) : (C.sts.getD k noSt).ini.length ≤ 1000 ∧ (C.sts.getD k noSt).ent.length ≤ 1000 ∧ (C.sts.getD k noSt).exi.length ≤ 1000 := by
  have := (few_parts h).2.2.1 k hk
  unfold fewStB at this
  simp only [Bool.and_eq_true, decide_eq_true_eq] at this
  have a := (fewActs_parts this.1.1).1
  have b := (fewActs_parts this.1.2).1
  omega
theorem few_smt {C : Ch} (h : fewB C = true) {k : Nat} (hk : k < C.trs.length) : (C.trs.getD k noTr).tgts.length ≤ 1000 ∧ (C.trs.getD k noTr).acts.length ≤ 1000 := by
  have := (few_parts h).2.2.2 k hk
  unfold fewTrB at this
  simp only [Bool.and_eq_true, decide_eq_true_eq] at this
  have a := (fewActs_parts this.1.1).1
  omega
set_option maxHeartbeats 4000000 in
set_option maxRecDepth 100000 in
theorem same_any (sA tA uA rA : Option Addr) (scap tcap ucap rcap : Nat) (C : Ch) (w : World) (hs : ChHas w (.slice sA C.sts.length scap) (.slice tA C.trs.length tcap) C) (hu : ChHas w (.slice uA C.sts.length ucap) (.slice rA C.trs.length rcap) C) (hf : fewB C = true) :
    Calls Tryz.prog 15 #[.agg #[.int .i64 C.vars, .slice sA C.sts.length scap, .slice tA C.trs.length tcap], .agg #[.int .i64 C.vars, .slice uA C.sts.length ucap, .slice rA C.trs.length rcap]] w fun e w' => e = .returned (.bool true) ∧ Below w.heap.size w w' := by
  have HS := Lib.hid hs
  have HU := Lib.hid hu
  have HF := Lib.hid hf
  have hp1 := (few_parts hf).1
  have hp2 := (few_parts hf).2.1
  obtain ⟨W2, hW2⟩ : ∃ W2, W2 = (w.alloc (chBox C.vars (.slice sA C.sts.length scap) (.slice tA C.trs.length tcap))).alloc (chBox C.vars (.slice uA C.sts.length ucap) (.slice rA C.trs.length rcap)) := ⟨_, rfl⟩
  have hz : W2.heap.size = w.heap.size + 2 := by rw [hW2]; simp
  have HB0 : Hid (Below w.heap.size w W2) := Lib.hid (by rw [hW2]; exact ((Below.refl _ _).alloc (Nat.le_refl _) _).alloc (by simp) _)
  have HX : Hid (Blk W2 w.heap.size 25 #[.int .i64 C.vars, .slice sA C.sts.length scap, .slice tA C.trs.length tcap]) := Lib.hid (by rw [hW2]; exact (Blk.new w 25 _).alloc _)
  have HY : Hid (Blk W2 (w.heap.size + 1) 25 #[.int .i64 C.vars, .slice uA C.sts.length ucap, .slice rA C.trs.length rcap]) := Lib.hid (by rw [hW2]; exact Blk.new_at (w.alloc _) 25 _ (w.heap.size + 1) (by simp))
  obtain ⟨⟨x0, x1, x2⟩, -⟩ := HX.out.facts3
  obtain ⟨⟨y0, y1, y2⟩, -⟩ := HY.out.facts3
  have hxx : ∀ x : Int, (x != x) = false := by simp
  clear hs hu hf
  go_enter Tryz.func15, Tryz.ntmps15
  go_wp2_with fail
  rw [← hW2]
  clear x0 x1 x2 y0 y1 y2
  go_loopw [5] (fun i wr => ∃ k : Nat, k ≤ C.sts.length ∧ i = .int .i64 (k : Int) ∧ Below W2.heap.size W2 wr) (fun i _ => C.sts.length - (intOf i).toNat)
  case atStart => exact ⟨0, Nat.zero_le _, rfl, Below.refl _ _⟩
  case round =>
    obtain ⟨k, hk, rfl, hb⟩ := hrel
    obtain ⟨wo, rfl⟩ : ∃ wo : World, wo = wr := ⟨_, rfl⟩
    have HB := Lib.hid hb
    have HBW := Lib.hid (HB0.out.trans (hb.mono HB0.out.size))
    obtain ⟨⟨x0, x1, x2⟩, -⟩ := (HX.out.below hb HX.out.lt).facts3
    obtain ⟨⟨y0, y1, y2⟩, -⟩ := (HY.out.below hb HY.out.lt).facts3
    by_cases hlt : k < C.sts.length
    · obtain ⟨b, o, vi, ve, vx, rfl, hbl, hst, hhas⟩ := HS.out.sms hlt
      obtain ⟨b', o', ui, ue, ux, rfl, hbl', hst', hhas'⟩ := HU.out.sms hlt
      obtain ⟨l1, l2, l3⟩ := few_sms HF.out hlt
      generalize C.sts.getD k noSt = S at *
      obtain ⟨iA, icap, eA, ecap, xA, xcap, rfl, rfl, rfl⟩ := hhas.slices
      obtain ⟨jA, jcap, fA, fcap, zA, zcap, rfl, rfl, rfl⟩ := hhas'.slices
      obtain ⟨c0, c1, c2, c3, c4⟩ := hst.below HBW.out hbl
      obtain ⟨d0, d1, d2, d3, d4⟩ := hst'.below HBW.out hbl'
      have HP := Lib.hid hhas
      have HP' := Lib.hid hhas'
      have HO := Lib.hid (Blk.alloc (Blk.new wo 45 #[.int .i64 S.kind, .int .i64 S.par, .slice iA S.ini.length icap, .slice eA S.ent.length ecap, .slice xA S.exi.length xcap]) (stBox S.kind S.par (.slice jA S.ini.length jcap) (.slice fA S.ent.length fcap) (.slice zA S.exi.length zcap)))
      have HO' := Lib.hid (Blk.new_at (wo.alloc (stBox S.kind S.par (.slice iA S.ini.length icap) (.slice eA S.ent.length ecap) (.slice xA S.exi.length xcap))) 45 #[.int .i64 S.kind, .int .i64 S.par, .slice jA S.ini.length jcap, .slice fA S.ent.length fcap, .slice zA S.exi.length zcap] (wo.heap.size + 1) (by simp))
      have HB1 := Lib.hid ((HB.out.alloc HB.out.size (stBox S.kind S.par (.slice iA S.ini.length icap) (.slice eA S.ent.length ecap) (.slice xA S.exi.length xcap))).alloc (by have := HB.out.size; simp; omega) (stBox S.kind S.par (.slice jA S.ini.length jcap) (.slice fA S.ent.length fcap) (.slice zA S.exi.length zcap)))
      have HBW1 := Lib.hid (HB0.out.trans (HB1.out.mono HB0.out.size))
      obtain ⟨⟨p0, p1, p2⟩, -⟩ := (Blk.alloc (HY.out.below hb HY.out.lt) (.cells #[.int .i64 S.kind, .int .i64 S.par, .slice iA S.ini.length icap, .slice eA S.ent.length ecap, .slice xA S.exi.length xcap] 45)).facts3
      obtain ⟨q0, q1, q2, q3, q4⟩ := hst'.below (HBW.out.alloc HBW.out.size (.cells #[.int .i64 S.kind, .int .i64 S.par, .slice iA S.ini.length icap, .slice eA S.ent.length ecap, .slice xA S.exi.length xcap] 45)) hbl'
      have hbs := hb.size
      have hn0 : ¬ w.heap.size = wo.heap.size := by omega
      have hn1 : ¬ w.heap.size + 1 = wo.heap.size := by omega
      have hn2 : ¬ b = wo.heap.size := by omega
      have hn3 : ¬ b' = wo.heap.size := by omega
      clear hst hst' hhas hhas' hb
      go_wp2_with fail
      refine (ints_same _ _ S.ini _ (HP.out.1.below HBW1.out) (HP'.out.1.below HBW1.out) l1).mono ?_
      rintro e w1 ⟨rfl, hb1⟩
      have HO1 := Lib.hid (HO.out.below hb1 HO.out.lt)
      have HO1' := Lib.hid (HO'.out.below hb1 HO'.out.lt)
      have HB2 := Lib.hid (HB1.out.trans (hb1.mono HB1.out.size))
      have HBW2 := Lib.hid (HB0.out.trans (HB2.out.mono HB0.out.size))
      obtain ⟨⟨g0, g1, g2, g3, g4⟩, -⟩ := blk5_facts HO1.out
      obtain ⟨⟨h0, h1, h2, h3, h4⟩, -⟩ := blk5_facts HO1'.out
      clear hb1 c0 c1 c2 c3 c4 d0 d1 d2 d3 d4 x0 x1 x2 y0 y1 y2 p0 p1 p2 q0 q1 q2 q3 q4
      go_wp2_with fail
      refine (acts_same _ _ S.ent _ (HP.out.2.1.below HBW2.out) (HP'.out.2.1.below HBW2.out) l2).mono ?_
      rintro e w2 ⟨rfl, hb2⟩
      have HO2 := Lib.hid (HO1.out.below hb2 HO1.out.lt)
      have HO2' := Lib.hid (HO1'.out.below hb2 HO1'.out.lt)
      have HB3 := Lib.hid (HB2.out.trans (hb2.mono HB2.out.size))
      have HBW3 := Lib.hid (HB0.out.trans (HB3.out.mono HB0.out.size))
      clear hb2 g0 g1 g2 g3 g4 h0 h1 h2 h3 h4
      obtain ⟨⟨g0, g1, g2, g3, g4⟩, -⟩ := blk5_facts HO2.out
      obtain ⟨⟨h0, h1, h2, h3, h4⟩, -⟩ := blk5_facts HO2'.out
      go_wp2_with fail
      refine (acts_same _ _ S.exi _ (HP.out.2.2.below HBW3.out) (HP'.out.2.2.below HBW3.out) l3).mono ?_
      rintro e w3 ⟨rfl, hb3⟩
      have HO3 := Lib.hid (HO2.out.below hb3 HO2.out.lt)
      have HO3' := Lib.hid (HO2'.out.below hb3 HO2'.out.lt)
      have HB4 := Lib.hid (HB3.out.trans (hb3.mono HB3.out.size))
      clear hb3 g0 g1 g2 g3 g4 h0 h1 h2 h3 h4
      obtain ⟨⟨g0, g1, g2, g3, g4⟩, -⟩ := blk5_facts HO3.out
      obtain ⟨⟨h0, h1, h2, h3, h4⟩, -⟩ := blk5_facts HO3'.out
      go_wp2_with fail
      go_roundw
      case rel => exact ⟨k + 1, by omega, by go_num, HB4.out⟩
      case measure => simp [intOf]; omega
    · obtain rfl : k = C.sts.length := by omega
      go_wp2_with fail
      go_loopw [11] (fun i wr => ∃ k : Nat, k ≤ C.trs.length ∧ i = .int .i64 (k : Int) ∧ Below W2.heap.size W2 wr) (fun i _ => C.trs.length - (intOf i).toNat)
      case atStart => exact ⟨0, Nat.zero_le _, rfl, HB.out⟩
      case round =>
        clear HB HBW hb x0 x1 x2 y0 y1 y2
        obtain ⟨k, hk, rfl, hb⟩ := hrel
        obtain ⟨wp, rfl⟩ : ∃ wp : World, wp = wr := ⟨_, rfl⟩
        have HB := Lib.hid hb
        have HBW := Lib.hid (HB0.out.trans (hb.mono HB0.out.size))
        obtain ⟨⟨x0, x1, x2⟩, -⟩ := (HX.out.below hb HX.out.lt).facts3
        obtain ⟨⟨y0, y1, y2⟩, -⟩ := (HY.out.below hb HY.out.lt).facts3
        by_cases hlt : k < C.trs.length
        · obtain ⟨b, o, vi, ve, rfl, hbl, hst, hhas⟩ := HS.out.smt hlt
          obtain ⟨b', o', ui, ue, rfl, hbl', hst', hhas'⟩ := HU.out.smt hlt
          obtain ⟨l1, l2⟩ := few_smt HF.out hlt
          generalize C.trs.getD k noTr = T at *
          obtain ⟨iA, icap, eA, ecap, rfl, rfl⟩ := hhas.slices
          obtain ⟨jA, jcap, fA, fcap, rfl, rfl⟩ := hhas'.slices
          obtain ⟨c0, c1, c2, c3, c4, c5⟩ := hst.below HBW.out hbl
          obtain ⟨d0, d1, d2, d3, d4, d5⟩ := hst'.below HBW.out hbl'
          have HP := Lib.hid hhas
          have HP' := Lib.hid hhas'
          have HO := Lib.hid (Blk.alloc (Blk.new wp 47 #[.int .i64 T.src, .int .i64 T.ev, .string T.guard, .slice iA T.tgts.length icap, .bool T.inner, .slice eA T.acts.length ecap]) (.cells #[.int .i64 T.src, .int .i64 T.ev, .string T.guard, .slice jA T.tgts.length jcap, .bool T.inner, .slice fA T.acts.length fcap] 47))
          have HO' := Lib.hid (Blk.new_at (wp.alloc (.cells #[.int .i64 T.src, .int .i64 T.ev, .string T.guard, .slice iA T.tgts.length icap, .bool T.inner, .slice eA T.acts.length ecap] 47)) 47 #[.int .i64 T.src, .int .i64 T.ev, .string T.guard, .slice jA T.tgts.length jcap, .bool T.inner, .slice fA T.acts.length fcap] (wp.heap.size + 1) (by simp))
          have HB1 := Lib.hid ((HB.out.alloc HB.out.size (.cells #[.int .i64 T.src, .int .i64 T.ev, .string T.guard, .slice iA T.tgts.length icap, .bool T.inner, .slice eA T.acts.length ecap] 47)).alloc (by have := HB.out.size; simp; omega) (.cells #[.int .i64 T.src, .int .i64 T.ev, .string T.guard, .slice jA T.tgts.length jcap, .bool T.inner, .slice fA T.acts.length fcap] 47))
          have HBW1 := Lib.hid (HB0.out.trans (HB1.out.mono HB0.out.size))
          obtain ⟨⟨p0, p1, p2⟩, -⟩ := (Blk.alloc (HY.out.below hb HY.out.lt) (.cells #[.int .i64 T.src, .int .i64 T.ev, .string T.guard, .slice iA T.tgts.length icap, .bool T.inner, .slice eA T.acts.length ecap] 47)).facts3
          obtain ⟨q0, q1, q2, q3, q4, q5⟩ := hst'.below (HBW.out.alloc HBW.out.size (.cells #[.int .i64 T.src, .int .i64 T.ev, .string T.guard, .slice iA T.tgts.length icap, .bool T.inner, .slice eA T.acts.length ecap] 47)) hbl'
          have hbs := hb.size
          have hn0 : ¬ w.heap.size = wp.heap.size := by omega
          have hn1 : ¬ w.heap.size + 1 = wp.heap.size := by omega
          have hn2 : ¬ b = wp.heap.size := by omega
          have hn3 : ¬ b' = wp.heap.size := by omega
          clear hst hst' hhas hhas' hb
          go_wp2_with fail
          refine (ints_same _ _ T.tgts _ (HP.out.1.below HBW1.out) (HP'.out.1.below HBW1.out) l1).mono ?_
          rintro e w1 ⟨rfl, hb1⟩
          have HO1 := Lib.hid (HO.out.below hb1 HO.out.lt)
          have HO1' := Lib.hid (HO'.out.below hb1 HO'.out.lt)
          have HB2 := Lib.hid (HB1.out.trans (hb1.mono HB1.out.size))
          have HBW2 := Lib.hid (HB0.out.trans (HB2.out.mono HB0.out.size))
          obtain ⟨⟨g0, g1, g2, g3, g4, g5⟩, -⟩ := blk6_facts HO1.out
          obtain ⟨⟨h0, h1, h2, h3, h4, h5⟩, -⟩ := blk6_facts HO1'.out
          clear hb1 c0 c1 c2 c3 c4 c5 d0 d1 d2 d3 d4 d5 x0 x1 x2 y0 y1 y2 p0 p1 p2 q0 q1 q2 q3 q4 q5
          go_wp2_with fail
          refine (acts_same _ _ T.acts _ (HP.out.2.below HBW2.out) (HP'.out.2.below HBW2.out) l2).mono ?_
          rintro e w2 ⟨rfl, hb2⟩
          have HO2 := Lib.hid (HO1.out.below hb2 HO1.out.lt)
          have HO2' := Lib.hid (HO1'.out.below hb2 HO1'.out.lt)
          have HB3 := Lib.hid (HB2.out.trans (hb2.mono HB2.out.size))
          clear hb2 g0 g1 g2 g3 g4 g5 h0 h1 h2 h3 h4 h5
          obtain ⟨⟨g0, g1, g2, g3, g4, g5⟩, -⟩ := blk6_facts HO2.out
          obtain ⟨⟨h0, h1, h2, h3, h4, h5⟩, -⟩ := blk6_facts HO2'.out
          go_wp2_with fail
          go_roundw
          case rel => exact ⟨k + 1, by omega, by go_num, HB3.out⟩
          case measure => simp [intOf]; omega
        · obtain rfl : k = C.trs.length := by omega
          go_wp2_with fail
          go_ret
          exact ⟨rfl, HBW.out⟩
end Go.Proofs.YteepfpmeijnkbaaGreatDoor
