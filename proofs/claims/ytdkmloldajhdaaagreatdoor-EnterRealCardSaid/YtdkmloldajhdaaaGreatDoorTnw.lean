/- The contracts of tree.Chart and tree.New. -/
import Derived.Test.YtdkmloldajhdaaaGreatDoorTjn
import Derived.Test.YtdkmloldajhdaaaGreatDoorCchk
import Derived.Test.YtdkmloldajhdaaaGreatDoorKsm
namespace Go.Proofs.YtdkmloldajhdaaaGreatDoor
open Go.ChangeShapes Go.WideShapes Go.ChangeAt Go.RowKit
set_option linter.unusedVariables false

theorem OwnCh.lower {B B' : Nat} {w : World} {vs vt : Value} {C : Ch} (h : OwnCh B w vs vt C) (hB : B' ≤ B) : OwnCh B' w vs vt C := by
  obtain ⟨rs, ts, h1, h2, h3, h4⟩ := h
  exact ⟨rs, ts, h1, h2, ⟨h3.1.lower hB, fun r hr => ⟨RowAt.lower (h3.2 r hr).1 hB, RowAt.lower (h3.2 r hr).2.1 hB, RowAt.lower (h3.2 r hr).2.2 hB⟩⟩, h4.1.lower hB, fun r hr => ⟨RowAt.lower (h4.2 r hr).1 hB, RowAt.lower (h4.2 r hr).2 hB⟩⟩
theorem OwnCh.apart {B g : Nat} {w : World} {vs vt : Value} {C : Ch} {t : Nat} {cs : Array Value} (h : OwnCh B w vs vt C) (hg : Blk w g t cs) (h1 : 3 ≠ t) (h2 : 77 ≠ t) (h3 : 47 ≠ t) (h4 : 53 ≠ t) (j : Nat) (u : Value) : OwnCh B (w.setCell ⟨g, j, none⟩ u) vs vt C := by
  obtain ⟨rs, ts, q1, q2, q3, q4⟩ := h
  exact ⟨rs, ts, q1, q2, ⟨q3.1.apart hg h3 j u, fun r hr => (q3.2 r hr).apart hg h1 h2 j u⟩, q4.1.apart hg h4 j u, fun r hr => (q4.2 r hr).apart hg h1 h2 j u⟩
theorem ChHas.slices {w : World} {vs vt : Value} {C : Ch} (h : ChHas w vs vt C) : ∃ (sA : Option Addr) (scap : Nat) (tA : Option Addr) (tcap : Nat), vs = .slice sA C.sts.length scap ∧ vt = .slice tA C.trs.length tcap := by
  obtain ⟨sA, scap, h1, _⟩ := RowsAt.slice h.1
  obtain ⟨tA, tcap, h2, _⟩ := RowsAt.slice h.2
  exact ⟨sA, scap, tA, tcap, h1, h2⟩
theorem copyCh_few (vs vt : Value) (C : Ch) (w : World) (hC : ChHas w vs vt C) (hF : fewB C = true) : Calls Tryz.prog 20 #[.agg #[.int .i64 C.vars, vs, vt]] w (CcPost C w) := by
  obtain ⟨f1, f2, _⟩ := few_parts hF
  exact copyCh_any vs vt C w hC (by omega) (by omega) (fun k hk => few_sms hF hk) (fun k hk => few_smt hF hk)
set_option maxHeartbeats 1000000 in
theorem chartT_any (g : Nat) (C : Ch) (w : World) (hT : TreeAt w g C) (hF : fewB C = true) : Calls Tryz.prog 41 #[.pointer (some ⟨g, 0, none⟩)] w (CcPost C w) := by
  obtain ⟨vs, vt, hX, hC⟩ := hT
  obtain ⟨sA, scap, tA, tcap, rfl, rfl⟩ := hC.slices
  have hgw := hX.lt
  obtain ⟨⟨x0, x1, x2⟩, -⟩ := (hX.alloc (chBox 0 (.slice none 0 0) (.slice none 0 0))).facts3
  have HY := Lib.hid (Blk.new w 25 #[.int .i64 0, .slice none 0 0, .slice none 0 0])
  have HC := Lib.hid (copyCh_few _ _ C _ (hC.below (below_box w (chBox 0 (.slice none 0 0) (.slice none 0 0)))) hF)
  have hn1 : ¬ g = w.heap.size := by omega
  clear hX hC
  go_enter Tryz.func41, Tryz.ntmps41
  go_wp2_with fail
  refine HC.out.mono ?_
  rintro e w1 ⟨hb1, us, ut, rfl, ho1⟩
  obtain ⟨uA, ucap, rA, rcap, rfl, rfl⟩ := ho1.has.slices
  have HY1 := Lib.hid (HY.out.below hb1 HY.out.lt)
  have HB1 := Lib.hid (below_boxed hb1)
  have HO1 := Lib.hid (ho1.lower (B' := w.heap.size) (by simp))
  obtain ⟨⟨y0, y1, y2⟩, z0, z1, z2⟩ := HY1.out.facts3
  clear hb1 ho1 x0 x1 x2
  go_wp2_with fail
  refine bodyPost_ret (results_own rfl _ _ _ rfl (load_ch (((HY1.out.set_ 0 _).set_ 1 _).set_ 2 _))) rfl ?_
  have q1 := HY1.out.set_ 0 (.int .i64 C.vars)
  have q2 := q1.set_ 1 (.slice uA C.sts.length ucap)
  exact ⟨((HB1.out.setCell (p := ⟨w.heap.size, 0, none⟩) (Nat.le_refl _) _).setCell (p := ⟨w.heap.size, 1, none⟩) (Nat.le_refl _) _).setCell (p := ⟨w.heap.size, 2, none⟩) (Nat.le_refl _) _, _, _, rfl,
    ((HO1.out.apart HY1.out (by decide) (by decide) (by decide) (by decide) 0 (.int .i64 C.vars)).apart q1 (by decide) (by decide) (by decide) (by decide) 1 (.slice uA C.sts.length ucap)).apart q2 (by decide) (by decide) (by decide) (by decide) 2 (.slice rA C.trs.length rcap)⟩
/-- what New tells -/
def NPost (C : Ch) (w : World) (e : Ending) (w' : World) : Prop :=
  Below w.heap.size w w' ∧ match chk hasTB C with
    | .ok => ∃ g, e = .returned (.tuple #[.pointer (some ⟨g, 0, none⟩), .nilIface]) ∧ w.heap.size ≤ g ∧ TreeAt w' g C
    | .large => e = .returned (.tuple #[.pointer none, .iface 78 (.int .i64 3)])
    | .spot k c => ∃ g, e = .returned (.tuple #[.pointer none, .iface 80 (.pointer (some ⟨g, 0, none⟩))]) ∧ w.heap.size ≤ g ∧ Blk w' g 82 #[.int .i64 k, .int .i64 c]
set_option maxHeartbeats 1000000 in
set_option maxRecDepth 100000 in
theorem new_any (vs vt : Value) (C : Ch) (w : World) (hL : Laid w) (hC : ChHas w vs vt C) (hF : fewB C = true) : Calls Tryz.prog 8 #[.agg #[.int .i64 C.vars, vs, vt]] w (NPost C w) := by
  obtain ⟨sA, scap, tA, tcap, rfl, rfl⟩ := hC.slices
  have HB0 := Lib.hid (below_box w (chBox C.vars (.slice sA C.sts.length scap) (.slice tA C.trs.length tcap)))
  have HCK := Lib.hid (chk_any _ _ C _ (hL.after HB0.out) (hC.below HB0.out) hF)
  have HC := Lib.hid hC
  have hnn := neq_nil_nil
  have hnc := fun p W => neq_code_any p W
  have hns := fun p W => neq_spot_any p W
  clear hL hC
  cases hok : chk hasTB C with
  | ok =>
    have HK := Lib.hid hok
    rw [hok] at HCK
    clear hok
    go_enter Tryz.func8, Tryz.ntmps8
    go_wp2_with fail
    refine HCK.out.mono ?_
    rintro e w1 ⟨hb1, he⟩
    have he' : e = .returned .nilIface := he
    subst he'
    obtain ⟨x0, x1, x2⟩ := box_later hb1
    have HB1 := Lib.hid (below_boxed hb1)
    clear hb1 he
    go_wp2_with fail
    refine (copyCh_few _ _ C _ (HC.out.below HB1.out) hF).mono ?_
    rintro e w2 ⟨hb2, us, ut, rfl, ho2⟩
    obtain ⟨uA, ucap, rA, rcap, rfl, rfl⟩ := ho2.has.slices
    have HB2 := Lib.hid (HB1.out.trans (hb2.mono HB1.out.size))
    have HO2 := Lib.hid ho2
    clear hb2 ho2 x0 x1 x2
    go_wp2_with fail
    go_ret2
    refine ⟨HB2.out.alloc HB2.out.size _, ?_⟩
    rw [HK.out]
    exact ⟨w2.heap.size, rfl, HB2.out.size, _, _, Blk.new w2 57 _, HO2.out.has.below (below_box w2 _)⟩
  | large =>
    have HK := Lib.hid hok
    rw [hok] at HCK
    clear hok
    go_enter Tryz.func8, Tryz.ntmps8
    go_wp2_with fail
    refine HCK.out.mono ?_
    rintro e w1 ⟨hb1, he⟩
    have he' : e = .returned (.iface 78 (.int .i64 3)) := he
    subst he'
    have HB1 := Lib.hid (below_boxed hb1)
    clear hb1 he
    go_wp2_with fail
    go_ret2
    refine ⟨HB1.out, ?_⟩
    rw [HK.out]
    exact rfl
  | spot k c =>
    have HK := Lib.hid hok
    rw [hok] at HCK
    clear hok
    go_enter Tryz.func8, Tryz.ntmps8
    go_wp2_with fail
    refine HCK.out.mono ?_
    rintro e w1 ⟨hb1, g, rfl, hg, hG⟩
    have HB1 := Lib.hid (below_boxed hb1)
    have HG := Lib.hid hG
    have hg1 : w.heap.size + 1 ≤ g := by simpa using hg
    have hg' : w.heap.size ≤ g := by omega
    clear hg hg1
    clear hb1 hG
    go_wp2_with fail
    go_ret2
    refine ⟨HB1.out, ?_⟩
    rw [HK.out]
    exact ⟨g, rfl, hg', HG.out⟩
end Go.Proofs.YtdkmloldajhdaaaGreatDoor
