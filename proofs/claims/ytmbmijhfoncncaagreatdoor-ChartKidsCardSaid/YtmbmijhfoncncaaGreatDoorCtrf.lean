/- The contract of chart's transFault: a transition's first fault. -/
import Derived.Test.YtmbmijhfoncncaaGreatDoorCact
import Derived.Test.YtmbmijhfoncncaaGreatDoorCtgt
import Derived.Test.YtmbmijhfoncncaaGreatDoorCfew
namespace Go.Proofs.YtmbmijhfoncncaaGreatDoor
open Go.ChangeShapes Go.WideShapes Go.ChangeAt Go.RowKit
set_option linter.unusedVariables false

abbrev trVal (t : Tr) (vt va : Value) : Value := .agg #[.int .i64 t.src, .int .i64 t.ev, .string t.guard, vt, .bool t.inner, va]
abbrev trBox (t : Tr) (vt va : Value) : Obj := .cells #[.int .i64 t.src, .int .i64 t.ev, .string t.guard, vt, .bool t.inner, va] 43
theorem Blk.facts6 {w : World} {g : Nat} {t : TypeId} {a b c d e f : Value} (h : Blk w g t #[a, b, c, d, e, f]) :
    w.cell? ⟨g, 0, none⟩ = some a ∧ w.cell? ⟨g, 1, none⟩ = some b ∧ w.cell? ⟨g, 2, none⟩ = some c ∧ w.cell? ⟨g, 3, none⟩ = some d ∧ w.cell? ⟨g, 4, none⟩ = some e ∧ w.cell? ⟨g, 5, none⟩ = some f := ⟨h.cell 0, h.cell 1, h.cell 2, h.cell 3, h.cell 4, h.cell 5⟩
theorem twot_later {w w1 : World} {vr : Int} {vs vt wt wa : Value} {t : Tr} (hb : Below ((w.alloc (chBox vr vs vt)).alloc (trBox t wt wa)).heap.size ((w.alloc (chBox vr vs vt)).alloc (trBox t wt wa)) w1) :
    (w1.cell? ⟨w.heap.size, 0, none⟩ = some (.int .i64 vr) ∧ w1.cell? ⟨w.heap.size, 1, none⟩ = some vs ∧ w1.cell? ⟨w.heap.size, 2, none⟩ = some vt) ∧
    (w1.cell? ⟨w.heap.size + 1, 0, none⟩ = some (.int .i64 t.src) ∧ w1.cell? ⟨w.heap.size + 1, 1, none⟩ = some (.int .i64 t.ev) ∧ w1.cell? ⟨w.heap.size + 1, 2, none⟩ = some (.string t.guard) ∧ w1.cell? ⟨w.heap.size + 1, 3, none⟩ = some wt ∧ w1.cell? ⟨w.heap.size + 1, 4, none⟩ = some (.bool t.inner) ∧ w1.cell? ⟨w.heap.size + 1, 5, none⟩ = some wa) :=
  ⟨(((Blk.new w 25 #[.int .i64 vr, vs, vt]).alloc _).below hb (by simp; omega)).facts3.1, ((Blk.new_at (w.alloc (chBox vr vs vt)) 43 #[.int .i64 t.src, .int .i64 t.ev, .string t.guard, wt, .bool t.inner, wa] (w.heap.size + 1) (by simp)).below hb (by simp)).facts6⟩
set_option maxHeartbeats 4000000 in
theorem trF_any (vs vt wt wa : Value) (C : Ch) (t : Tr) (w : World) (hL : Laid w) (hC : ChHas w vs vt C) (hl : C.sts.length ≤ 1000) (hv : -1000 ≤ C.vars) (hv2 : C.vars ≤ 1000)
    (ht : TrHas w wt wa t) (hsh : ShortTr t) (hg : t.guard.size ≤ 1000000) (has : ShortActs t.acts) :
    Calls Tryz.prog 18 #[.agg #[.int .i64 C.vars, vs, vt], trVal t wt wa] w fun e w' => e = .returned (.int .i64 (trF hasTB C.sts C.vars t)) ∧ Below w.heap.size w w' := by
  have hsl : Short C.sts.length := by unfold Short; omega
  have H1 := Lib.hid (fun (W : World) (hb : Below w.heap.size w W) => src_any C.vars t.src vs vt C W (hC.below hb) hsl)
  have H2 := Lib.hid (fun (W : World) (hb : Below w.heap.size w W) => ev_any C.vars t.ev vs vt C W (hC.below hb) hl)
  have H3 := Lib.hid (fun (W : World) (hb : Below w.heap.size w W) => tgts_any C.vars vs vt wt C t.tgts W (hC.below hb) hl (ht.1.below hb) hsh.1)
  have H4 := Lib.hid (fun (W : World) (hb : Below w.heap.size w W) => hasType_any t.guard C.vars 2 W (hL.after hb) hg)
  have H5 := Lib.hid (fun (W : World) (hb : Below w.heap.size w W) => acts_any wa t.acts C.vars W (hL.after hb) (ht.2.below hb) hsh.2 has hv hv2)
  have hR : trF hasTB C.sts C.vars t = trF hasTB C.sts C.vars t := rfl
  conv at hR => rhs; unfold trF
  obtain ⟨tA, tcap, aA, acap, rfl, rfl⟩ := ht.slices
  generalize trF hasTB C.sts C.vars t = R at *
  generalize actsB hasTB C.vars t.acts = b5 at *
  generalize hasTB t.guard C.vars 2 = b4 at *
  generalize tgtsB C.sts t.tgts = b3 at *
  generalize evB C.sts t.ev = b2 at *
  generalize srcB C.sts t.src = b1 at *
  have HR := Lib.hid hR
  have hz := size_toList t.guard
  generalize t.tgts.length = tl at *
  generalize t.acts.length = al at *
  obtain ⟨src, ev, guard, tgts, inner, acts⟩ := t
  simp only at HR H1 H2 H3 H4 H5 hz ⊢
  clear hR hL hC ht hsh hg has
  cases b1 with
  | false =>
    have HQ0 : Hid (Below ((w.alloc (chBox C.vars vs vt)).alloc (trBox ⟨src, ev, guard, tgts, inner, acts⟩ (.slice tA tl tcap) (.slice aA al acap))).heap.size ((w.alloc (chBox C.vars vs vt)).alloc (trBox ⟨src, ev, guard, tgts, inner, acts⟩ (.slice tA tl tcap) (.slice aA al acap))) ((w.alloc (chBox C.vars vs vt)).alloc (trBox ⟨src, ev, guard, tgts, inner, acts⟩ (.slice tA tl tcap) (.slice aA al acap)))) := Lib.hid (Below.refl _ _)
    go_enter Tryz.func18, Tryz.ntmps18
    go_wp2_with fail
    refine (H1.out _ (below_twod HQ0.out)).mono ?_
    rintro e w1 ⟨rfl, hb1⟩
    have hQ1 := HQ0.out.trans (hb1.mono HQ0.out.size)
    obtain ⟨⟨x0, x1, x2⟩, y0, y1, y2, y3, y4, y5⟩ := twot_later hQ1
    have HQ1 := Lib.hid hQ1
    clear hb1 hQ1
    go_wp2_with fail
    go_ret
    exact ⟨ret_int (by rw [HR.out]; rfl), below_twod HQ1.out⟩
  | true =>
    cases b2 with
    | false =>
      have HQ0 : Hid (Below ((w.alloc (chBox C.vars vs vt)).alloc (trBox ⟨src, ev, guard, tgts, inner, acts⟩ (.slice tA tl tcap) (.slice aA al acap))).heap.size ((w.alloc (chBox C.vars vs vt)).alloc (trBox ⟨src, ev, guard, tgts, inner, acts⟩ (.slice tA tl tcap) (.slice aA al acap))) ((w.alloc (chBox C.vars vs vt)).alloc (trBox ⟨src, ev, guard, tgts, inner, acts⟩ (.slice tA tl tcap) (.slice aA al acap)))) := Lib.hid (Below.refl _ _)
      go_enter Tryz.func18, Tryz.ntmps18
      go_wp2_with fail
      refine (H1.out _ (below_twod HQ0.out)).mono ?_
      rintro e w1 ⟨rfl, hb1⟩
      have hQ1 := HQ0.out.trans (hb1.mono HQ0.out.size)
      obtain ⟨⟨x0, x1, x2⟩, y0, y1, y2, y3, y4, y5⟩ := twot_later hQ1
      have HQ1 := Lib.hid hQ1
      clear hb1 hQ1
      go_wp2_with fail
      refine (H2.out _ (below_twod HQ1.out)).mono ?_
      rintro e w2 ⟨rfl, hb2⟩
      have hQ2 := HQ1.out.trans (hb2.mono HQ1.out.size)
      clear x0 x1 x2 y0 y1 y2 y3 y4 y5
      obtain ⟨⟨x0, x1, x2⟩, y0, y1, y2, y3, y4, y5⟩ := twot_later hQ2
      have HQ2 := Lib.hid hQ2
      clear hb2 hQ2
      go_wp2_with fail
      go_ret
      exact ⟨ret_int (by rw [HR.out]; rfl), below_twod HQ2.out⟩
    | true =>
      cases b3 with
      | false =>
        have HQ0 : Hid (Below ((w.alloc (chBox C.vars vs vt)).alloc (trBox ⟨src, ev, guard, tgts, inner, acts⟩ (.slice tA tl tcap) (.slice aA al acap))).heap.size ((w.alloc (chBox C.vars vs vt)).alloc (trBox ⟨src, ev, guard, tgts, inner, acts⟩ (.slice tA tl tcap) (.slice aA al acap))) ((w.alloc (chBox C.vars vs vt)).alloc (trBox ⟨src, ev, guard, tgts, inner, acts⟩ (.slice tA tl tcap) (.slice aA al acap)))) := Lib.hid (Below.refl _ _)
        go_enter Tryz.func18, Tryz.ntmps18
        go_wp2_with fail
        refine (H1.out _ (below_twod HQ0.out)).mono ?_
        rintro e w1 ⟨rfl, hb1⟩
        have hQ1 := HQ0.out.trans (hb1.mono HQ0.out.size)
        obtain ⟨⟨x0, x1, x2⟩, y0, y1, y2, y3, y4, y5⟩ := twot_later hQ1
        have HQ1 := Lib.hid hQ1
        clear hb1 hQ1
        go_wp2_with fail
        refine (H2.out _ (below_twod HQ1.out)).mono ?_
        rintro e w2 ⟨rfl, hb2⟩
        have hQ2 := HQ1.out.trans (hb2.mono HQ1.out.size)
        clear x0 x1 x2 y0 y1 y2 y3 y4 y5
        obtain ⟨⟨x0, x1, x2⟩, y0, y1, y2, y3, y4, y5⟩ := twot_later hQ2
        have HQ2 := Lib.hid hQ2
        clear hb2 hQ2
        go_wp2_with fail
        refine (H3.out _ (below_twod HQ2.out)).mono ?_
        rintro e w3 ⟨rfl, hb3⟩
        have hQ3 := HQ2.out.trans (hb3.mono HQ2.out.size)
        clear x0 x1 x2 y0 y1 y2 y3 y4 y5
        obtain ⟨⟨x0, x1, x2⟩, y0, y1, y2, y3, y4, y5⟩ := twot_later hQ3
        have HQ3 := Lib.hid hQ3
        clear hb3 hQ3
        go_wp2_with fail
        go_ret
        exact ⟨ret_int (by rw [HR.out]; rfl), below_twod HQ3.out⟩
      | true =>
        by_cases h0 : guard.size = 0
        · rw [show decide (guard.size = 0) = true by simpa using h0] at hz
          have hz2 : (!guard.toList.isEmpty) = false := by rw [hz]; rfl
          have hz3 : guard.toList = [] := by simpa using hz
          have H0 := Lib.hid h0
          clear h0
          cases b5 with
          | false =>
            have HQ0 : Hid (Below ((w.alloc (chBox C.vars vs vt)).alloc (trBox ⟨src, ev, guard, tgts, inner, acts⟩ (.slice tA tl tcap) (.slice aA al acap))).heap.size ((w.alloc (chBox C.vars vs vt)).alloc (trBox ⟨src, ev, guard, tgts, inner, acts⟩ (.slice tA tl tcap) (.slice aA al acap))) ((w.alloc (chBox C.vars vs vt)).alloc (trBox ⟨src, ev, guard, tgts, inner, acts⟩ (.slice tA tl tcap) (.slice aA al acap)))) := Lib.hid (Below.refl _ _)
            go_enter Tryz.func18, Tryz.ntmps18
            go_wp2_with fail
            refine (H1.out _ (below_twod HQ0.out)).mono ?_
            rintro e w1 ⟨rfl, hb1⟩
            have hQ1 := HQ0.out.trans (hb1.mono HQ0.out.size)
            obtain ⟨⟨x0, x1, x2⟩, y0, y1, y2, y3, y4, y5⟩ := twot_later hQ1
            have HQ1 := Lib.hid hQ1
            clear hb1 hQ1
            go_wp2_with fail
            refine (H2.out _ (below_twod HQ1.out)).mono ?_
            rintro e w2 ⟨rfl, hb2⟩
            have hQ2 := HQ1.out.trans (hb2.mono HQ1.out.size)
            clear x0 x1 x2 y0 y1 y2 y3 y4 y5
            obtain ⟨⟨x0, x1, x2⟩, y0, y1, y2, y3, y4, y5⟩ := twot_later hQ2
            have HQ2 := Lib.hid hQ2
            clear hb2 hQ2
            go_wp2_with fail
            refine (H3.out _ (below_twod HQ2.out)).mono ?_
            rintro e w3 ⟨rfl, hb3⟩
            have hQ3 := HQ2.out.trans (hb3.mono HQ2.out.size)
            clear x0 x1 x2 y0 y1 y2 y3 y4 y5
            obtain ⟨⟨x0, x1, x2⟩, y0, y1, y2, y3, y4, y5⟩ := twot_later hQ3
            have HQ3 := Lib.hid hQ3
            clear hb3 hQ3
            go_wp2_with fail
            refine (H5.out _ (below_twod HQ3.out)).mono ?_
            rintro e w4 ⟨rfl, hb4⟩
            have hQ4 := HQ3.out.trans (hb4.mono HQ3.out.size)
            clear x0 x1 x2 y0 y1 y2 y3 y4 y5
            obtain ⟨⟨x0, x1, x2⟩, y0, y1, y2, y3, y4, y5⟩ := twot_later hQ4
            have HQ4 := Lib.hid hQ4
            clear hb4 hQ4
            go_wp2_with fail
            go_ret
            exact ⟨ret_int (by rw [HR.out]; simp [H0.out]), below_twod HQ4.out⟩
          | true =>
            have HQ0 : Hid (Below ((w.alloc (chBox C.vars vs vt)).alloc (trBox ⟨src, ev, guard, tgts, inner, acts⟩ (.slice tA tl tcap) (.slice aA al acap))).heap.size ((w.alloc (chBox C.vars vs vt)).alloc (trBox ⟨src, ev, guard, tgts, inner, acts⟩ (.slice tA tl tcap) (.slice aA al acap))) ((w.alloc (chBox C.vars vs vt)).alloc (trBox ⟨src, ev, guard, tgts, inner, acts⟩ (.slice tA tl tcap) (.slice aA al acap)))) := Lib.hid (Below.refl _ _)
            go_enter Tryz.func18, Tryz.ntmps18
            go_wp2_with fail
            refine (H1.out _ (below_twod HQ0.out)).mono ?_
            rintro e w1 ⟨rfl, hb1⟩
            have hQ1 := HQ0.out.trans (hb1.mono HQ0.out.size)
            obtain ⟨⟨x0, x1, x2⟩, y0, y1, y2, y3, y4, y5⟩ := twot_later hQ1
            have HQ1 := Lib.hid hQ1
            clear hb1 hQ1
            go_wp2_with fail
            refine (H2.out _ (below_twod HQ1.out)).mono ?_
            rintro e w2 ⟨rfl, hb2⟩
            have hQ2 := HQ1.out.trans (hb2.mono HQ1.out.size)
            clear x0 x1 x2 y0 y1 y2 y3 y4 y5
            obtain ⟨⟨x0, x1, x2⟩, y0, y1, y2, y3, y4, y5⟩ := twot_later hQ2
            have HQ2 := Lib.hid hQ2
            clear hb2 hQ2
            go_wp2_with fail
            refine (H3.out _ (below_twod HQ2.out)).mono ?_
            rintro e w3 ⟨rfl, hb3⟩
            have hQ3 := HQ2.out.trans (hb3.mono HQ2.out.size)
            clear x0 x1 x2 y0 y1 y2 y3 y4 y5
            obtain ⟨⟨x0, x1, x2⟩, y0, y1, y2, y3, y4, y5⟩ := twot_later hQ3
            have HQ3 := Lib.hid hQ3
            clear hb3 hQ3
            go_wp2_with fail
            refine (H5.out _ (below_twod HQ3.out)).mono ?_
            rintro e w4 ⟨rfl, hb4⟩
            have hQ4 := HQ3.out.trans (hb4.mono HQ3.out.size)
            clear x0 x1 x2 y0 y1 y2 y3 y4 y5
            obtain ⟨⟨x0, x1, x2⟩, y0, y1, y2, y3, y4, y5⟩ := twot_later hQ4
            have HQ4 := Lib.hid hQ4
            clear hb4 hQ4
            go_wp2_with fail
            go_ret
            exact ⟨ret_int (by rw [HR.out]; simp [H0.out]), below_twod HQ4.out⟩
        · rw [show decide (guard.size = 0) = false by simpa using h0] at hz
          have hz2 : (!guard.toList.isEmpty) = true := by rw [hz]; rfl
          have hz3 : ¬ guard.toList = [] := by intro h; rw [h] at hz; cases hz
          have H0 := Lib.hid h0
          clear h0
          cases b4 with
          | false =>
            have HQ0 : Hid (Below ((w.alloc (chBox C.vars vs vt)).alloc (trBox ⟨src, ev, guard, tgts, inner, acts⟩ (.slice tA tl tcap) (.slice aA al acap))).heap.size ((w.alloc (chBox C.vars vs vt)).alloc (trBox ⟨src, ev, guard, tgts, inner, acts⟩ (.slice tA tl tcap) (.slice aA al acap))) ((w.alloc (chBox C.vars vs vt)).alloc (trBox ⟨src, ev, guard, tgts, inner, acts⟩ (.slice tA tl tcap) (.slice aA al acap)))) := Lib.hid (Below.refl _ _)
            go_enter Tryz.func18, Tryz.ntmps18
            go_wp2_with fail
            refine (H1.out _ (below_twod HQ0.out)).mono ?_
            rintro e w1 ⟨rfl, hb1⟩
            have hQ1 := HQ0.out.trans (hb1.mono HQ0.out.size)
            obtain ⟨⟨x0, x1, x2⟩, y0, y1, y2, y3, y4, y5⟩ := twot_later hQ1
            have HQ1 := Lib.hid hQ1
            clear hb1 hQ1
            go_wp2_with fail
            refine (H2.out _ (below_twod HQ1.out)).mono ?_
            rintro e w2 ⟨rfl, hb2⟩
            have hQ2 := HQ1.out.trans (hb2.mono HQ1.out.size)
            clear x0 x1 x2 y0 y1 y2 y3 y4 y5
            obtain ⟨⟨x0, x1, x2⟩, y0, y1, y2, y3, y4, y5⟩ := twot_later hQ2
            have HQ2 := Lib.hid hQ2
            clear hb2 hQ2
            go_wp2_with fail
            refine (H3.out _ (below_twod HQ2.out)).mono ?_
            rintro e w3 ⟨rfl, hb3⟩
            have hQ3 := HQ2.out.trans (hb3.mono HQ2.out.size)
            clear x0 x1 x2 y0 y1 y2 y3 y4 y5
            obtain ⟨⟨x0, x1, x2⟩, y0, y1, y2, y3, y4, y5⟩ := twot_later hQ3
            have HQ3 := Lib.hid hQ3
            clear hb3 hQ3
            go_wp2_with fail
            refine (H4.out _ (below_twod HQ3.out)).mono ?_
            rintro e w4 ⟨rfl, hb4⟩
            have hQ4 := HQ3.out.trans (hb4.mono HQ3.out.size)
            clear x0 x1 x2 y0 y1 y2 y3 y4 y5
            obtain ⟨⟨x0, x1, x2⟩, y0, y1, y2, y3, y4, y5⟩ := twot_later hQ4
            have HQ4 := Lib.hid hQ4
            clear hb4 hQ4
            go_wp2_with fail
            go_ret
            exact ⟨ret_int (by rw [HR.out]; simp [H0.out]), below_twod HQ4.out⟩
          | true =>
            cases b5 with
            | false =>
              have HQ0 : Hid (Below ((w.alloc (chBox C.vars vs vt)).alloc (trBox ⟨src, ev, guard, tgts, inner, acts⟩ (.slice tA tl tcap) (.slice aA al acap))).heap.size ((w.alloc (chBox C.vars vs vt)).alloc (trBox ⟨src, ev, guard, tgts, inner, acts⟩ (.slice tA tl tcap) (.slice aA al acap))) ((w.alloc (chBox C.vars vs vt)).alloc (trBox ⟨src, ev, guard, tgts, inner, acts⟩ (.slice tA tl tcap) (.slice aA al acap)))) := Lib.hid (Below.refl _ _)
              go_enter Tryz.func18, Tryz.ntmps18
              go_wp2_with fail
              refine (H1.out _ (below_twod HQ0.out)).mono ?_
              rintro e w1 ⟨rfl, hb1⟩
              have hQ1 := HQ0.out.trans (hb1.mono HQ0.out.size)
              obtain ⟨⟨x0, x1, x2⟩, y0, y1, y2, y3, y4, y5⟩ := twot_later hQ1
              have HQ1 := Lib.hid hQ1
              clear hb1 hQ1
              go_wp2_with fail
              refine (H2.out _ (below_twod HQ1.out)).mono ?_
              rintro e w2 ⟨rfl, hb2⟩
              have hQ2 := HQ1.out.trans (hb2.mono HQ1.out.size)
              clear x0 x1 x2 y0 y1 y2 y3 y4 y5
              obtain ⟨⟨x0, x1, x2⟩, y0, y1, y2, y3, y4, y5⟩ := twot_later hQ2
              have HQ2 := Lib.hid hQ2
              clear hb2 hQ2
              go_wp2_with fail
              refine (H3.out _ (below_twod HQ2.out)).mono ?_
              rintro e w3 ⟨rfl, hb3⟩
              have hQ3 := HQ2.out.trans (hb3.mono HQ2.out.size)
              clear x0 x1 x2 y0 y1 y2 y3 y4 y5
              obtain ⟨⟨x0, x1, x2⟩, y0, y1, y2, y3, y4, y5⟩ := twot_later hQ3
              have HQ3 := Lib.hid hQ3
              clear hb3 hQ3
              go_wp2_with fail
              refine (H4.out _ (below_twod HQ3.out)).mono ?_
              rintro e w4 ⟨rfl, hb4⟩
              have hQ4 := HQ3.out.trans (hb4.mono HQ3.out.size)
              clear x0 x1 x2 y0 y1 y2 y3 y4 y5
              obtain ⟨⟨x0, x1, x2⟩, y0, y1, y2, y3, y4, y5⟩ := twot_later hQ4
              have HQ4 := Lib.hid hQ4
              clear hb4 hQ4
              go_wp2_with fail
              refine (H5.out _ (below_twod HQ4.out)).mono ?_
              rintro e w5 ⟨rfl, hb5⟩
              have hQ5 := HQ4.out.trans (hb5.mono HQ4.out.size)
              clear x0 x1 x2 y0 y1 y2 y3 y4 y5
              obtain ⟨⟨x0, x1, x2⟩, y0, y1, y2, y3, y4, y5⟩ := twot_later hQ5
              have HQ5 := Lib.hid hQ5
              clear hb5 hQ5
              go_wp2_with fail
              go_ret
              exact ⟨ret_int (by rw [HR.out]; simp [H0.out]), below_twod HQ5.out⟩
            | true =>
              have HQ0 : Hid (Below ((w.alloc (chBox C.vars vs vt)).alloc (trBox ⟨src, ev, guard, tgts, inner, acts⟩ (.slice tA tl tcap) (.slice aA al acap))).heap.size ((w.alloc (chBox C.vars vs vt)).alloc (trBox ⟨src, ev, guard, tgts, inner, acts⟩ (.slice tA tl tcap) (.slice aA al acap))) ((w.alloc (chBox C.vars vs vt)).alloc (trBox ⟨src, ev, guard, tgts, inner, acts⟩ (.slice tA tl tcap) (.slice aA al acap)))) := Lib.hid (Below.refl _ _)
              go_enter Tryz.func18, Tryz.ntmps18
              go_wp2_with fail
              refine (H1.out _ (below_twod HQ0.out)).mono ?_
              rintro e w1 ⟨rfl, hb1⟩
              have hQ1 := HQ0.out.trans (hb1.mono HQ0.out.size)
              obtain ⟨⟨x0, x1, x2⟩, y0, y1, y2, y3, y4, y5⟩ := twot_later hQ1
              have HQ1 := Lib.hid hQ1
              clear hb1 hQ1
              go_wp2_with fail
              refine (H2.out _ (below_twod HQ1.out)).mono ?_
              rintro e w2 ⟨rfl, hb2⟩
              have hQ2 := HQ1.out.trans (hb2.mono HQ1.out.size)
              clear x0 x1 x2 y0 y1 y2 y3 y4 y5
              obtain ⟨⟨x0, x1, x2⟩, y0, y1, y2, y3, y4, y5⟩ := twot_later hQ2
              have HQ2 := Lib.hid hQ2
              clear hb2 hQ2
              go_wp2_with fail
              refine (H3.out _ (below_twod HQ2.out)).mono ?_
              rintro e w3 ⟨rfl, hb3⟩
              have hQ3 := HQ2.out.trans (hb3.mono HQ2.out.size)
              clear x0 x1 x2 y0 y1 y2 y3 y4 y5
              obtain ⟨⟨x0, x1, x2⟩, y0, y1, y2, y3, y4, y5⟩ := twot_later hQ3
              have HQ3 := Lib.hid hQ3
              clear hb3 hQ3
              go_wp2_with fail
              refine (H4.out _ (below_twod HQ3.out)).mono ?_
              rintro e w4 ⟨rfl, hb4⟩
              have hQ4 := HQ3.out.trans (hb4.mono HQ3.out.size)
              clear x0 x1 x2 y0 y1 y2 y3 y4 y5
              obtain ⟨⟨x0, x1, x2⟩, y0, y1, y2, y3, y4, y5⟩ := twot_later hQ4
              have HQ4 := Lib.hid hQ4
              clear hb4 hQ4
              go_wp2_with fail
              refine (H5.out _ (below_twod HQ4.out)).mono ?_
              rintro e w5 ⟨rfl, hb5⟩
              have hQ5 := HQ4.out.trans (hb5.mono HQ4.out.size)
              clear x0 x1 x2 y0 y1 y2 y3 y4 y5
              obtain ⟨⟨x0, x1, x2⟩, y0, y1, y2, y3, y4, y5⟩ := twot_later hQ5
              have HQ5 := Lib.hid hQ5
              clear hb5 hQ5
              go_wp2_with fail
              go_ret
              exact ⟨ret_int (by rw [HR.out]; simp [H0.out]), below_twod HQ5.out⟩
end Go.Proofs.YtmbmijhfoncncaaGreatDoor
