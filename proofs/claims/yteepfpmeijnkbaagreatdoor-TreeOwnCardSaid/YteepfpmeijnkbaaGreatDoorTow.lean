/- What is stored into a chart that Chart told: it stays a chart's rows, and nothing else changes. No function is called in this text. -/
import Derived.Test.YteepfpmeijnkbaaGreatDoorTup
import Derived.Test.YteepfpmeijnkbaaGreatDoorCarg
namespace Go.Proofs.YteepfpmeijnkbaaGreatDoor
open Go.ChangeShapes Go.WideShapes Go.ChangeAt Go.RowKit
set_option linter.unusedVariables false

/-- a row of numbers that may be stored into, whatever they are -/
def OwnLen (B : Nat) (w : World) (v : Value) : Prop := v = .slice none 0 0 ∨ ∃ g n cap cur, v = .slice (some ⟨g, 0, none⟩) n cap ∧ B ≤ g ∧ Blk w g 3 cur ∧ n ≤ cap ∧ n ≤ cur.size ∧ n ≤ 1000 ∧ ∀ i, i < n → ∃ x : Int, cur[i]? = some (.int .i64 x)
theorem OwnLen.of {B : Nat} {w : World} {v : Value} {L : List Int} (h : OwnInts B w v L) (hl : L.length ≤ 1000) : OwnLen B w v := by
  rcases h with ⟨h, _⟩ | ⟨g, cap, cur, h1, h2, h3, h4, h5⟩
  · exact .inl h
  · refine .inr ⟨g, _, cap, cur, h1, h2, h3, h4, ?_, hl, fun i hi => ⟨L[i], ?_⟩⟩
    · by_cases hz : L.length = 0
      · omega
      · have := h5 (L.length - 1) _ 0 _ (List.getElem?_eq_getElem (by omega)) rfl
        have := (Array.getElem?_eq_some_iff.1 this).1
        omega
    · have := h5 i _ 0 _ (List.getElem?_eq_getElem hi) rfl
      rwa [Nat.mul_one, Nat.add_zero] at this
/-- a store into a block of another type -/
theorem OwnLen.apart {B : Nat} {w : World} {v : Value} {g t : Nat} {cs : Array Value} (h : OwnLen B w v) (hg : Blk w g t cs) (ht : 3 ≠ t) (j : Nat) (u : Value) : OwnLen B (w.setCell ⟨g, j, none⟩ u) v := by
  rcases h with h | ⟨g', n, cap, cur, h1, h2, h3, h4⟩
  · exact .inl h
  · exact .inr ⟨g', n, cap, cur, h1, h2, h3.set_ne (blk_ne h3 hg ht) _ _, h4⟩
/-- a number stored into a row of numbers -/
theorem OwnLen.put {B : Nat} {w : World} {v : Value} {g : Nat} {cs : Array Value} (h : OwnLen B w v) (hg : Blk w g 3 cs) (j : Nat) (x : Int) : OwnLen B (w.setCell ⟨g, j, none⟩ (.int .i64 x)) v := by
  rcases h with h | ⟨g', n, cap, cur, h1, h2, h3, h4, h5, h6, h7⟩
  · exact .inl h
  · by_cases he : g' = g
    · subst he
      refine .inr ⟨g', n, cap, _, h1, h2, h3.set_ j _, h4, by simpa using h5, h6, fun i hi => ?_⟩
      by_cases hij : i = j
      · subst hij
        exact ⟨x, by rw [Array.getElem?_setIfInBounds_self_of_lt (by omega)]⟩
      · rw [Array.getElem?_setIfInBounds_ne (Ne.symm hij)]
        exact h7 i hi
    · exact .inr ⟨g', n, cap, cur, h1, h2, h3.set_ne he _ _, h4, h5, h6, h7⟩
/-- the chart that was told, and what was there before it -/
structure Told7 (w0 : World) (B xb n m : Nat) (vr : Int) (us ut : Value) (rs : List StRow) (w : World) : Prop where
  below : Below B w0 w
  box : Blk w xb 25 #[.int .i64 vr, us, ut]
  len : rs.length = n
  sts : RowAt B w 45 5 stateCells us rs
  ini : ∀ r ∈ rs, OwnLen B w r.2.1
  trs : ∃ ts : List TrRow, ts.length = m ∧ RowAt B w 47 6 transCells ut ts
theorem Told7.of {w0 w : World} {B : Nat} {vr : Int} {us ut : Value} {C : Ch} (hb : Below B w0 w) (hB : B ≤ w.heap.size) (hf : fewB C = true) (h : OwnCh B w us ut C) : ∃ rs, Told7 w0 B w.heap.size C.sts.length C.trs.length vr us ut rs (w.alloc (chBox vr us ut)) := by
  obtain ⟨rs, ts, h1, h2, h3, h4⟩ := h
  refine ⟨rs, hb.alloc hB _, Blk.new w 25 _, by rw [← h1, List.length_map], h3.1.below (below_box w _), fun r hr => ?_, ts, by rw [← h2, List.length_map], h4.1.below (below_box w _)⟩
  obtain ⟨i, hi⟩ := List.getElem?_of_mem hr
  have hlt := (List.getElem?_eq_some_iff.1 hi).1
  have hl : rs.length = C.sts.length := by rw [← h1, List.length_map]
  have hS : C.sts.getD i noSt = r.1 := by rw [← h1]; simp [List.getD, hi]
  have := few_sms hf (k := i) (by omega)
  rw [hS] at this
  exact OwnLen.of (RowAt.below (h3.2 r hr).1 (below_box w _)) this.1
/-- a state's Kind is stored -/
theorem Told7.kind {w0 w : World} {B xb n m g cap : Nat} {vr : Int} {ut : Value} {rs : List StRow} (h : Told7 w0 B xb n m vr (.slice (some ⟨g, 0, none⟩) n cap) ut rs w) {i : Nat} (hi : i < n) (hg : B ≤ g) {cur : Array Value} (hG : Blk w g 45 cur) :
    ∃ rs', Told7 w0 B xb n m vr (.slice (some ⟨g, 0, none⟩) n cap) ut rs' (w.setCell ⟨g, i * 5, none⟩ (.int .i64 0)) := by
  have hr := List.getElem?_eq_getElem (l := rs) (i := i) (by rw [h.len]; exact hi)
  have e0 : i * 5 = i * 5 + 0 := rfl
  have hp := h.sts.put (r' := ({ rs[i]'(by rw [h.len]; exact hi) with fst := { (rs[i]'(by rw [h.len]; exact hi)).1 with kind := 0 } } : StRow)) (j := 0) (u := .int .i64 0) stateCells_len hr (by decide) rfl
  refine ⟨_, h.below.setCell (p := ⟨g, i * 5, none⟩) hg _, h.box.set_ne (blk_ne h.box hG (by decide)) _ _, by rw [List.length_set]; exact h.len, hp, fun r hm => ?_, ?_⟩
  · rcases List.mem_or_eq_of_mem_set hm with hm | rfl
    · exact (h.ini r hm).apart hG (by decide) _ _
    · exact (h.ini _ (List.getElem_mem _)).apart hG (by decide) _ _
  · obtain ⟨ts, ht, h1⟩ := h.trs
    exact ⟨ts, ht, h1.apart hG (by decide) _ _⟩
/-- a number is stored into a row of numbers -/
theorem Told7.num {w0 w : World} {B xb n m g : Nat} {vr : Int} {us ut : Value} {rs : List StRow} (h : Told7 w0 B xb n m vr us ut rs w) (hg : B ≤ g) {cur : Array Value} (hG : Blk w g 3 cur) (j : Nat) (x : Int) : Told7 w0 B xb n m vr us ut rs (w.setCell ⟨g, j, none⟩ (.int .i64 x)) := by
  refine ⟨h.below.setCell (p := ⟨g, j, none⟩) hg _, h.box.set_ne (blk_ne h.box hG (by decide)) _ _, h.len, h.sts.apart hG (by decide) _ _, fun r hm => (h.ini r hm).put hG _ _, ?_⟩
  obtain ⟨ts, ht, h1⟩ := h.trs
  exact ⟨ts, ht, h1.apart hG (by decide) _ _⟩
/-- a transition's Source is stored -/
theorem Told7.src {w0 w : World} {B xb n m g cap : Nat} {vr : Int} {us : Value} {rs : List StRow} (h : Told7 w0 B xb n m vr us (.slice (some ⟨g, 0, none⟩) m cap) rs w) {i : Nat} (hi : i < m) (hg : B ≤ g) {cur : Array Value} (hG : Blk w g 47 cur) :
    Told7 w0 B xb n m vr us (.slice (some ⟨g, 0, none⟩) m cap) rs (w.setCell ⟨g, i * 6, none⟩ (.int .i64 99)) := by
  obtain ⟨ts, ht, h1⟩ := h.trs
  have hr := List.getElem?_eq_getElem (l := ts) (i := i) (by rw [ht]; exact hi)
  have hp := h1.put (r' := ({ ts[i]'(by rw [ht]; exact hi) with fst := { (ts[i]'(by rw [ht]; exact hi)).1 with src := 99 } } : TrRow)) (j := 0) (u := .int .i64 99) transCells_len hr (by decide) rfl
  exact ⟨h.below.setCell (p := ⟨g, i * 6, none⟩) hg _, h.box.set_ne (blk_ne h.box hG (by decide)) _ _, h.len, h.sts.apart hG (by decide) _ _, fun r hm => (h.ini r hm).apart hG (by decide) _ _, _, by rw [List.length_set]; exact ht, hp⟩
/-- where a state lies -/
theorem Told7.at_ {w0 w : World} {B xb n m : Nat} {vr : Int} {us ut : Value} {rs : List StRow} (h : Told7 w0 B xb n m vr us ut rs w) {i : Nat} (hi : i < n) :
    ∃ g cap cur r, us = .slice (some ⟨g, 0, none⟩) n cap ∧ n ≤ cap ∧ B ≤ g ∧ Blk w g 45 cur ∧ rs[i]? = some r ∧ (∃ K, w.cell? ⟨g, i * 5, none⟩ = some (.int .i64 K)) ∧ w.frozen? ⟨g, i * 5, none⟩ = false ∧ w.cell? ⟨g, i * 5 + 2, none⟩ = some r.2.1 ∧ OwnLen B w r.2.1 := by
  have hr := List.getElem?_eq_getElem (l := rs) (i := i) (by rw [h.len]; exact hi)
  obtain ⟨g, cap, cur, h1, h2, h3, h4, h5⟩ := h.sts.at_ hr
  rw [h.len] at h1 h2
  exact ⟨g, cap, cur, _, h1, h2, h3, h4, hr, ⟨_, (h5 0 _ rfl).1⟩, (h5 0 _ rfl).2, (h5 2 _ rfl).1, h.ini _ (List.getElem_mem _)⟩
theorem Told7.atTr {w0 w : World} {B xb n m : Nat} {vr : Int} {us ut : Value} {rs : List StRow} (h : Told7 w0 B xb n m vr us ut rs w) {i : Nat} (hi : i < m) :
    ∃ g cap cur, ut = .slice (some ⟨g, 0, none⟩) m cap ∧ m ≤ cap ∧ B ≤ g ∧ Blk w g 47 cur ∧ (∃ K, w.cell? ⟨g, i * 6, none⟩ = some (.int .i64 K)) ∧ w.frozen? ⟨g, i * 6, none⟩ = false := by
  obtain ⟨ts, ht, h1⟩ := h.trs
  have hr := List.getElem?_eq_getElem (l := ts) (i := i) (by rw [ht]; exact hi)
  obtain ⟨g, cap, cur, h1, h2, h3, h4, h5⟩ := h1.at_ hr
  rw [ht] at h1 h2
  exact ⟨g, cap, cur, h1, h2, h3, h4, ⟨_, (h5 0 _ rfl).1⟩, (h5 0 _ rfl).2⟩
end Go.Proofs.YteepfpmeijnkbaaGreatDoor
