/- The contract of codec.Get: the chart of any bytes, or what is amiss first, and where. -/
import Derived.Test.YtkdgcdcakioajaaGreatDoorKch
import Derived.Test.YtkdgcdcakioajaaGreatDoorKpt
namespace Go.Proofs.YtkdgcdcakioajaaGreatDoor
open Go.ChangeShapes Go.WideShapes Go.ChangeAt Go.RowKit
set_option linter.unusedVariables false

/-- what Get tells -/
def GetPost (a : GA) (w : World) (e : Ending) (w' : World) : Prop :=
  Below w.heap.size w w' ∧ match a with
    | .ok C => ∃ vs vt, e = .returned (.tuple #[.agg #[.int .i64 C.vars, vs, vt], .nilIface]) ∧ ChHas w' vs vt C
    | .spot k c => ∃ q, e = .returned (.tuple #[.agg #[.int .i64 0, .slice none 0 0, .slice none 0 0], .iface 51 (.pointer (some ⟨q, 0, none⟩))]) ∧ w.heap.size ≤ q ∧ Blk w' q 53 #[.int .i64 k, .int .i64 c]
    | .large => e = .returned (.tuple #[.agg #[.int .i64 0, .slice none 0 0, .slice none 0 0], .iface 42 (.int .i64 3)])
theorem results_two {fn : Func} {r u : Tmp} {ty : TypeId} {cs : Array Value} (hr : fn.results = #[.cell r ty, .tmp u]) (tmps : Array Value) (w : World) (g : Nat) (hp : tmps.getD r undef = .pointer (some ⟨g, 0, none⟩)) (hl : (loadVar ty ⟨g, 0, none⟩).run Tryz.prog w = .ok (.agg cs) w) :
    (results fn tmps).run Tryz.prog w = .ok (.tuple #[.agg cs, tmps.getD u undef]) w := by
  rw [results_cell_tmp hr, hp]
  simp [asAddr, hl]
theorem ChHas.sub {w w' : World} {vs vt : Value} {C : Ch} (h : ChHas w vs vt C) (hs : Sub w w') : ChHas w' vs vt C := ⟨StsAt.sub h.1 hs, TrsAt.sub h.2 hs⟩
theorem few_read {l : List UInt8} (h : (endP l (chP l (0, 0)).2).2 = 0) : fewB (chP l (0, 0)).1 = true := by
  refine few_of_ok (ch_sound ?_).1
  unfold endP at h
  split at h
  · exact absurd h (by show ¬ (2 : Int) = 0; decide)
  · exact h
set_option maxHeartbeats 1000000 in
set_option maxRecDepth 100000 in
theorem get_any (vin : Value) (l : List UInt8) (w : World) (hL : Laid w) (hA : BytesAt w vin l) (hl : l.length ≤ 1000000) :
    Calls Tryz.prog 7 #[vin] w (GetPost (getA hasTB l) w) := by
  obtain ⟨A, cap, rfl, hcap, _⟩ := id hA
  have HL := Lib.hid hL
  have hC : RCtx w (.slice A l.length cap) l (w.heap.size + 1) := ⟨hA, by omega, hl⟩
  have HC := Lib.hid hC
  have hz0 : ((w.alloc (.cells zCh 25)).alloc (.cells #[.slice A l.length cap, .int .i64 0, .int .i64 0] 49)).heap.size = w.heap.size + 2 := by simp
  have hb0 : Below w.heap.size w ((w.alloc (.cells zCh 25)).alloc (.cells #[.slice A l.length cap, .int .i64 0, .int .i64 0] 49)) := ((Below.refl _ _).alloc (Nat.le_refl _) _).alloc (by simp) _
  have HB0 := Lib.hid hb0
  have HQ0 := Lib.hid (Blk.alloc (Blk.new w 25 zCh) (.cells #[.slice A l.length cap, .int .i64 0, .int .i64 0] 49))
  have HCH := Lib.hid (chart_any hC (0, 0) _ hb0 (Blk.new_at (w.alloc (.cells zCh 25)) 49 #[.slice A l.length cap, .int .i64 0, .int .i64 0] (w.heap.size + 1) (by simp)) (Nat.zero_le _))
  have hR : getA hasTB l = getA hasTB l := rfl
  conv at hR => rhs; unfold getA
  have HFEW := Lib.hid (few_read (l := l))
  have HLE : Hid ((chP l (0, 0)).2.1 ≤ l.length) := Lib.hid (by
    have a1 := (num_cod l).le (0, 0) (Nat.zero_le _)
    have a2 := (upTo_cod l 24 3 (by omega) (by omega)).le (s1 l (0, 0)) a1.2
    have a3 := (upTo_cod l 40 3 (by omega) (by omega)).le (s2 l (0, 0)) a2.2
    have a4 := ((st_cod l).eachP (nSt l (0, 0))).le (s3 l (0, 0)) a3.2
    exact (((tr_cod l).eachP (nTr l (0, 0))).le _ a4.2).2)
  generalize getA hasTB l = R at *
  generalize chP l (0, 0) = U at *
  obtain ⟨C, s⟩ := U
  dsimp only at *
  have HEND := Lib.hid (fun w1 (hr : RdAt (w.heap.size + 1) (.slice A l.length cap) w1 s) => end_any HC.out s w1 hr HLE.out)
  unfold EPost at HEND
  generalize endP l s = E at *
  obtain ⟨k, f⟩ := E
  dsimp only at *
  have hnn := neq_nil_nil
  have hnc := fun p W => neq_code_any p W
  have hns := fun p W => neq_spot_any p W
  clear hL hA hC hb0
  by_cases hf : f = 0
  · subst hf
    rw [if_neg (by simp)] at hR
    have HF := Lib.hid (HFEW.out rfl)
    have HR := Lib.hid hR
    clear hR HFEW
    go_enter Tryz.func7, Tryz.ntmps7
    go_wp2_with fail
    refine HCH.out.mono ?_
    rintro e w1 ⟨⟨C1, vs, vt⟩, rfl, hv, hn, hg1, hr1⟩
    have hv' : C1 = C := hv
    subst hv'
    have hn' : ChHas (keep (from_ (w.heap.size + 2)) w1) vs vt C1 := by rw [← hz0]; exact hn
    obtain ⟨sA, scap, hs1, _⟩ := RowsAt.slice hn'.1
    obtain ⟨tA, tcap, hs2, _⟩ := RowsAt.slice hn'.2
    subst hs1
    subst hs2
    unfold chAgg
    dsimp only
    have HN := Lib.hid hn'
    have HG1 := Lib.hid hg1
    have HQ1 := Lib.hid (Blk.alloc (blk_grown HQ0.out hg1 (by omega)) (chBox C1.vars (.slice sA C1.sts.length scap) (.slice tA C1.trs.length tcap)))
    have HR1 := Lib.hid (Blk.alloc hr1 (chBox C1.vars (.slice sA C1.sts.length scap) (.slice tA C1.trs.length tcap)))
    have HC1 := Lib.hid (Blk.new w1 25 #[.int .i64 C1.vars, .slice sA C1.sts.length scap, .slice tA C1.trs.length tcap])
    have z1 := hg1.size
    clear hv hn hn' hg1 hr1
    go_wp2_with fail
    refine (HEND.out _ HR1.out).mono ?_
    rintro e w2 ⟨rfl, hg2, hr2⟩
    have HG2 := Lib.hid (grown_trans HG1.out (grown_trans (grown_alloc w1 (chBox C1.vars (.slice sA C1.sts.length scap) (.slice tA C1.trs.length tcap)) _) hg2))
    have hq2 := blk_grown HQ1.out hg2 (by omega)
    have HQ2 := Lib.hid hq2
    have hc2 := blk_grown HC1.out hg2 (by omega)
    have HC2 := Lib.hid hc2
    have HB2 := Lib.hid (grown_below HB0.out (by omega) HG2.out)
    have HK2 : Hid (ChHas (keep (from_ (w.heap.size + 2)) w2) (.slice sA C1.sts.length scap) (.slice tA C1.trs.length tcap) C1) := Lib.hid (ChHas.sub HN.out (keep_sub (by have := hg2.size; simp at this; omega) fun i hi hi2 => by
      have := from_true.1 hi2
      exact ⟨hi2, (hg2.block i (by simp; omega) (fun hc => by injection hc with hc; omega)).trans (Below.heap_alloc w1 _ i hi)⟩))
    have HH2 := Lib.hid (ChHas.sub HK2.out (sub_keep _ w2))
    have z2 := hg2.size
    have z2' : (w1.alloc (chBox C1.vars (.slice sA C1.sts.length scap) (.slice tA C1.trs.length tcap))).heap.size = w1.heap.size + 1 := by simp
    unfold RdAt at hr2
    obtain ⟨⟨g0, g1, g2⟩, -⟩ := hr2.facts3
    obtain ⟨⟨c0, c1, c2⟩, -⟩ := hc2.facts3
    have HCK := Lib.hid (chk_any _ _ C1 w2 (HL.out.after HB2.out) HH2.out HF.out)
    generalize chk hasTB C1 = ck at *
    clear hg2 hr2 hq2 hc2
    cases ck with
    | ok =>
      go_wp2_with fail
      refine HCK.out.mono ?_
      rintro e w3 ⟨hb3, he⟩
      have he' : e = .returned .nilIface := he
      subst he'
      have hq3 := HQ2.out.below hb3 HQ2.out.lt
      have HQ3 := Lib.hid hq3
      obtain ⟨⟨d0, d1, d2⟩, e0, e1, e2⟩ := hq3.facts3
      have hc3 := HC2.out.below hb3 HC2.out.lt
      clear c0 c1 c2 g0 g1 g2
      obtain ⟨⟨c0, c1, c2⟩, -⟩ := hc3.facts3
      have HB3 := Lib.hid (HB2.out.trans (hb3.mono HB2.out.size))
      have HK3 : Hid (ChHas (keep (from_ (w.heap.size + 2)) w3) (.slice sA C1.sts.length scap) (.slice tA C1.trs.length tcap) C1) := Lib.hid (ChHas.sub HK2.out (keep_sub hb3.size fun i hi hi2 => ⟨hi2, hb3.block i hi⟩))
      clear hb3 he hq3 hc3
      go_wp2_with fail
      refine bodyPost_ret (results_two rfl _ _ _ rfl (load25 (((HQ3.out.set_ 0 _).set_ 1 _).set_ 2 _))) rfl ?_
      have hRR : R = .ok C1 := HR.out
      rw [hRR]
      refine ⟨((HB3.out.setCell (p := ⟨w.heap.size, 0, none⟩) (Nat.le_refl _) _).setCell (p := ⟨w.heap.size, 1, none⟩) (Nat.le_refl _) _).setCell (p := ⟨w.heap.size, 2, none⟩) (Nat.le_refl _) _, _, _, rfl, ?_⟩
      refine ChHas.sub HK3.out ((keep_sub (K' := from_ (w.heap.size + 2)) (by simp) fun i hi hi2 => ?_).trans (sub_keep _ _))
      have := from_true.1 hi2
      exact ⟨hi2, by rw [heap_setq (by omega), heap_setq (by omega), heap_setq (by omega)]⟩
    | large =>
      go_wp2_with fail
      refine HCK.out.mono ?_
      rintro e w3 ⟨hb3, he⟩
      have he' : e = .returned (.iface 42 (.int .i64 3)) := he
      subst he'
      have hq3 := HQ2.out.below hb3 HQ2.out.lt
      have HQ3 := Lib.hid hq3
      obtain ⟨⟨d0, d1, d2⟩, e0, e1, e2⟩ := hq3.facts3
      have HB3 := Lib.hid (HB2.out.trans (hb3.mono HB2.out.size))
      clear hb3 he hq3 c0 c1 c2 g0 g1 g2
      go_wp2_with fail
      refine bodyPost_ret (results_two rfl _ _ _ rfl (load25 (((HQ3.out.set_ 0 _).set_ 1 _).set_ 2 _))) rfl ?_
      have hRR : R = .large := HR.out
      rw [hRR]
      exact ⟨((HB3.out.setCell (p := ⟨w.heap.size, 0, none⟩) (Nat.le_refl _) _).setCell (p := ⟨w.heap.size, 1, none⟩) (Nat.le_refl _) _).setCell (p := ⟨w.heap.size, 2, none⟩) (Nat.le_refl _) _, rfl⟩
    | spot k2 c3 =>
      go_wp2_with fail
      refine HCK.out.mono ?_
      rintro e w3 ⟨hb3, he⟩
      obtain ⟨q2, he, hle, hblk⟩ := he
      subst he
      have HBK := Lib.hid hblk
      have hq3 := HQ2.out.below hb3 HQ2.out.lt
      have HQ3 := Lib.hid hq3
      obtain ⟨⟨d0, d1, d2⟩, e0, e1, e2⟩ := hq3.facts3
      have HB3 := Lib.hid (HB2.out.trans (hb3.mono HB2.out.size))
      clear hb3 hblk hq3 c0 c1 c2 g0 g1 g2
      go_wp2_with fail
      refine bodyPost_ret (results_two rfl _ _ _ rfl (load25 (((HQ3.out.set_ 0 _).set_ 1 _).set_ 2 _))) rfl ?_
      have hRR : R = .spot k2 c3 := HR.out
      rw [hRR]
      refine ⟨((HB3.out.setCell (p := ⟨w.heap.size, 0, none⟩) (Nat.le_refl _) _).setCell (p := ⟨w.heap.size, 1, none⟩) (Nat.le_refl _) _).setCell (p := ⟨w.heap.size, 2, none⟩) (Nat.le_refl _) _, q2, rfl, by omega, ?_⟩
      exact (heap_setq (by omega)).trans ((heap_setq (by omega)).trans ((heap_setq (by omega)).trans HBK.out))
  · rw [if_pos hf] at hR
    subst hR
    have hfz : (f == 0) = false := by simpa using hf
    clear HFEW
    go_enter Tryz.func7, Tryz.ntmps7
    go_wp2_with fail
    refine HCH.out.mono ?_
    rintro e w1 ⟨⟨C1, vs, vt⟩, rfl, hv, hn, hg1, hr1⟩
    have hv' : C1 = C := hv
    subst hv'
    have hn' : ChHas (keep (from_ (w.heap.size + 2)) w1) vs vt C1 := by rw [← hz0]; exact hn
    obtain ⟨sA, scap, hs1, _⟩ := RowsAt.slice hn'.1
    obtain ⟨tA, tcap, hs2, _⟩ := RowsAt.slice hn'.2
    subst hs1
    subst hs2
    unfold chAgg
    dsimp only
    have HG1 := Lib.hid hg1
    have HQ1 := Lib.hid (Blk.alloc (blk_grown HQ0.out hg1 (by omega)) (chBox C1.vars (.slice sA C1.sts.length scap) (.slice tA C1.trs.length tcap)))
    have HR1 := Lib.hid (Blk.alloc hr1 (chBox C1.vars (.slice sA C1.sts.length scap) (.slice tA C1.trs.length tcap)))
    have z1 := hg1.size
    clear hv hn hn' hg1 hr1
    go_wp2_with fail
    refine (HEND.out _ HR1.out).mono ?_
    rintro e w2 ⟨rfl, hg2, hr2⟩
    have HG2 := Lib.hid (grown_trans HG1.out (grown_trans (grown_alloc w1 (chBox C1.vars (.slice sA C1.sts.length scap) (.slice tA C1.trs.length tcap)) _) hg2))
    have hq2 := blk_grown HQ1.out hg2 (by omega)
    have HQ2 := Lib.hid hq2
    have HB2 := Lib.hid (grown_below HB0.out (by omega) HG2.out)
    have z2 := hg2.size
    have z2' : (w1.alloc (chBox C1.vars (.slice sA C1.sts.length scap) (.slice tA C1.trs.length tcap))).heap.size = w1.heap.size + 1 := by simp
    unfold RdAt at hr2
    obtain ⟨⟨g0, g1, g2⟩, -⟩ := hr2.facts3
    obtain ⟨⟨d0, d1, d2⟩, e0, e1, e2⟩ := hq2.facts3
    obtain ⟨⟨a0, a1, a2⟩, b0, b1, b2⟩ := (Blk.alloc hq2 (.cells #[.int .i64 (k : Int), .int .i64 f] 53)).facts3
    have hne : ¬ w.heap.size = w2.heap.size := by omega
    have hne' : ¬ w2.heap.size = w.heap.size := by omega
    clear hg2 hr2 hq2
    go_wp2_with fail
    go_region
    · go_wp2
      refine bodyPost_ret (results_two rfl _ _ _ rfl (load25 ((((HQ2.out.alloc (.cells #[.int .i64 (k : Int), .int .i64 f] 53)).set_ 0 (.int .i64 0)).set_ 1 (.slice none 0 0)).set_ 2 (.slice none 0 0)))) rfl ?_
      refine ⟨((((HB2.out.alloc HB2.out.size _).setCell (p := ⟨w.heap.size, 0, none⟩) (Nat.le_refl _) _).setCell (p := ⟨w.heap.size, 1, none⟩) (Nat.le_refl _) _).setCell (p := ⟨w.heap.size, 2, none⟩) (Nat.le_refl _) _).drew, w2.heap.size, rfl, HB2.out.size, ?_⟩
      exact (heap_setq hne').trans ((heap_setq hne').trans ((heap_setq hne').trans (Blk.new w2 53 #[.int .i64 (k : Int), .int .i64 f])))
    · go_wp2
      refine bodyPost_ret (results_two rfl _ _ _ rfl (load25 ((((HQ2.out.set_ 0 (.int .i64 0)).set_ 1 (.slice none 0 0)).set_ 2 (.slice none 0 0)).alloc (.cells #[.int .i64 (k : Int), .int .i64 f] 53)))) rfl ?_
      have hB3 := ((HB2.out.setCell (p := ⟨w.heap.size, 0, none⟩) (Nat.le_refl _) (.int .i64 0)).setCell (p := ⟨w.heap.size, 1, none⟩) (Nat.le_refl _) (.slice none 0 0)).setCell (p := ⟨w.heap.size, 2, none⟩) (Nat.le_refl _) (.slice none 0 0)
      refine ⟨(hB3.alloc hB3.size _).drew, w2.heap.size, rfl, HB2.out.size, ?_⟩
      exact Blk.new_at (((w2.setCell ⟨w.heap.size, 0, none⟩ (.int .i64 0)).setCell ⟨w.heap.size, 1, none⟩ (.slice none 0 0)).setCell ⟨w.heap.size, 2, none⟩ (.slice none 0 0)) 53 #[.int .i64 (k : Int), .int .i64 f] w2.heap.size (by simp)
end Go.Proofs.YtkdgcdcakioajaaGreatDoor
