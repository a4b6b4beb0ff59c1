/- The contract of codec.Put: a chart's bytes; or chart.Check's error. -/
import Derived.Test.YtkdgcdcakioajaaGreatDoorKput2
import Derived.Test.YtkdgcdcakioajaaGreatDoorCchk
namespace Go.Proofs.YtkdgcdcakioajaaGreatDoor
open Go.ChangeShapes Go.WideShapes Go.ChangeAt Go.RowKit
set_option linter.unusedVariables false

theorem hasTB_short : ∀ s v k, hasTB s v k = true → s.size ≤ 200 := by
  intro s v k h
  have hz := Lib.size_eq s
  by_cases hs : s.data.toList.length ≤ 200
  · omega
  · unfold hasTB parseAns at h
    rw [if_neg hs] at h
    cases h
theorem CPost.not {a : CA} {w w' : World} {e : Ending} (h : CPost a w e w') (ha : a ≠ .ok) : Below w.heap.size w w' ∧ ∃ v, e = .returned v ∧ ((∃ p, v = .iface 42 p) ∨ ∃ p, v = .iface 51 p) := by
  obtain ⟨hb, h⟩ := h
  cases a with
  | ok => exact absurd rfl ha
  | large => exact ⟨hb, _, h, .inl ⟨_, rfl⟩⟩
  | spot k c => obtain ⟨g, he, _⟩ := h; exact ⟨hb, _, he, .inr ⟨_, rfl⟩⟩
/-- what Put tells -/
def PutPost (C : Ch) (w : World) (e : Ending) (w' : World) : Prop :=
  Below w.heap.size w w' ∧ ((chk hasTB C = .ok ∧ ∃ v, e = .returned (.tuple #[v, .nilIface]) ∧ OwnsB w.heap.size w' v (encCh C)) ∨ (chk hasTB C ≠ .ok ∧ ∃ p, e = .returned (.tuple #[.slice none 0 0, .iface 42 p]) ∨ e = .returned (.tuple #[.slice none 0 0, .iface 51 p])))
set_option maxHeartbeats 1000000 in
set_option maxRecDepth 100000 in
theorem put_any (C : Ch) (vs vt : Value) (w : World) (hL : Laid w) (hH : ChHas w vs vt C) (hf : fewB C = true) :
    Calls Tryz.prog 6 #[.agg #[.int .i64 C.vars, vs, vt]] w (PutPost C w) := by
  obtain ⟨sA, scap, rfl, _⟩ := RowsAt.slice hH.1
  obtain ⟨tA, tcap, rfl, _⟩ := RowsAt.slice hH.2
  have HL := Lib.hid hL
  have HH := Lib.hid hH
  have HCK := Lib.hid (fun (W : World) (h : Below (w.alloc (chBox C.vars (.slice sA C.sts.length scap) (.slice tA C.trs.length tcap))).heap.size (w.alloc (chBox C.vars (.slice sA C.sts.length scap) (.slice tA C.trs.length tcap))) W) => chk_any _ _ C W (hL.after (below_boxed h)) (hH.below (below_boxed h)) hf)
  have hnn := neq_nil_nil
  have hnc := fun p W => neq_code_any p W
  have hns := fun p W => neq_spot_any p W
  have HB0 := Lib.hid (Below.refl (w.alloc (chBox C.vars (.slice sA C.sts.length scap) (.slice tA C.trs.length tcap))).heap.size (w.alloc (chBox C.vars (.slice sA C.sts.length scap) (.slice tA C.trs.length tcap))))
  clear hL hH
  by_cases hok : chk hasTB C = .ok
  · have HOK := Lib.hid (okCh_of hasTB_short hok)
    have HPC := Lib.hid (fun (W : World) (h : Below w.heap.size w W) => putChart_any w C sA tA scap tcap HOK.out HH.out (.slice none 0 0) [] W h (World.ownsRow_nil _ _ _ _) (encCh_len HOK.out))
    have HK := Lib.hid hok
    rw [hok] at HCK
    clear hok
    go_enter Tryz.func6, Tryz.ntmps6
    go_wp2_with fail
    refine (HCK.out _ HB0.out).mono ?_
    rintro e w1 ⟨hb1, he⟩
    have he' : e = .returned .nilIface := he
    subst he'
    obtain ⟨x0, x1, x2⟩ := box_later hb1
    have HB1 := Lib.hid (below_boxed hb1)
    clear hb1 he
    go_wp2_with fail
    refine (HPC.out _ HB1.out).mono ?_
    rintro e w2 ⟨v2, rfl, hw2, ho2⟩
    have HB2 := Lib.hid (hw2.from HB1.out)
    have HO2 := Lib.hid ho2
    clear hw2 ho2
    go_wp2_with fail
    go_ret2
    exact ⟨HB2.out, .inl ⟨HK.out, v2, rfl, HO2.out⟩⟩
  · have HK := Lib.hid hok
    clear hok
    go_enter Tryz.func6, Tryz.ntmps6
    go_wp2_with fail
    refine (HCK.out _ HB0.out).mono ?_
    intro e w1 hp
    obtain ⟨hb1, v, rfl, hv⟩ := hp.not HK.out
    obtain ⟨x0, x1, x2⟩ := box_later hb1
    have HB1 := Lib.hid (below_boxed hb1)
    clear hb1 hp
    rcases hv with ⟨p, rfl⟩ | ⟨p, rfl⟩
    · go_wp2_with fail
      go_ret2
      exact ⟨HB1.out, .inr ⟨HK.out, p, .inl rfl⟩⟩
    · go_wp2_with fail
      go_ret2
      exact ⟨HB1.out, .inr ⟨HK.out, p, .inr rfl⟩⟩
end Go.Proofs.YtkdgcdcakioajaaGreatDoor
