/- What an entry does: (*unread).add and (*Feed).Add. -/
import Derived.Test.YtkcgpjlakhhggaaFme
namespace Go.Proofs.Ytkcgpjlakhhggaa
open Go.ChangeShapes Go.WideShapes Go.ChangeAt Go.RowKit
set_option linter.unusedVariables false

theorem add_fin {B h o n m : Nat} {x : Int} {v0 v3 v' : Value} {w w3 w4 : World} {cur3 : Array Value} {xs ys : List Value} (hk3 : KB (fun b => b = h ∨ v0.ownBlock = some b) w w3) (hcur3 : Blk w3 h 47 cur3) (hr3 : w3.ownsRow B 2 1 v3 m ys)
    (hg : (w3.alloc (.cells #[.int .i64 x] 2)).grownBy w4 v3.ownBlock) (hown : w4.ownsRow B 2 1 v' n xs) (hloc3 : v3.ownBlock = v0.ownBlock) (hloc : v'.ownBlock = v3.ownBlock ∨ v'.ownBlock = some (w3.alloc (.cells #[.int .i64 x] 2)).heap.size) :
    KB (fun b => b = h ∨ v0.ownBlock = some b) w (w4.setCell ⟨h, o, none⟩ v') ∧ Blk (w4.setCell ⟨h, o, none⟩ v') h 47 (cur3.setIfInBounds o v') ∧ (w4.setCell ⟨h, o, none⟩ v').ownsRow B 2 1 v' n xs ∧ ∀ b, v'.ownBlock = some b → v0.ownBlock = some b ∨ w.heap.size ≤ b := by
  have hb4 : Blk w4 h 47 cur3 := (hcur3.alloc (.cells #[.int .i64 x] 2)).grown hg (fun hc => own_else hr3 hcur3 (by decide) hc.symm)
  refine ⟨?_, hb4.set_ o v', own_apart hown hb4 (by decide) o v', fun b hb => ?_⟩
  · refine ((hk3.trans (KB.of_below (below_box w3 _))).trans (KB.of_grown hg fun b hb => .inr (by rw [← hloc3]; exact hb))).trans (KB.of_grown (grown_set w4 h o v') fun b hb => ?_)
    injection hb with hb
    exact .inl hb.symm
  · rcases hloc with h1 | h1
    · exact .inl (by rw [← hloc3, ← h1]; exact hb)
    · rw [hb] at h1
      injection h1 with h1
      have := hk3.size
      refine .inr ?_
      rw [h1]
      simp
      omega
theorem set_again (cur : Array Value) (o : Nat) (v1 v' y : Value) : (((cur.setIfInBounds o v1).setIfInBounds (o + 1) y).setIfInBounds o v') = (cur.setIfInBounds o v').setIfInBounds (o + 1) y := by
  apply Array.ext_getElem?
  intro q
  by_cases h1 : q = o
  · subst h1
    rw [Array.getElem?_setIfInBounds_ne (show q + 1 ≠ q by omega) (xs := cur.setIfInBounds q v')]
    rw [Array.getElem?_setIfInBounds_self, Array.getElem?_setIfInBounds_self]
    simp
  · rw [Array.getElem?_setIfInBounds_ne (Ne.symm h1)]
    by_cases h2 : q = o + 1
    · subst h2
      rw [Array.getElem?_setIfInBounds_self, Array.getElem?_setIfInBounds_self]
      simp
    · rw [Array.getElem?_setIfInBounds_ne (Ne.symm h2), Array.getElem?_setIfInBounds_ne (Ne.symm h2), Array.getElem?_setIfInBounds_ne (Ne.symm h1), Array.getElem?_setIfInBounds_ne (Ne.symm h1)]
theorem set_same_next (cur : Array Value) (o : Nat) (v' y : Value) (h : cur[o + 1]? = some y) : cur.setIfInBounds o v' = (cur.setIfInBounds o v').setIfInBounds (o + 1) y := by
  apply Array.ext_getElem?
  intro q
  by_cases h2 : q = o + 1
  · subst h2
    rw [Array.getElem?_setIfInBounds_ne (by omega), Array.getElem?_setIfInBounds_self, h, if_pos (by rw [Array.size_setIfInBounds]; exact (Array.getElem?_eq_some_iff.1 h).1)]
  · rw [Array.getElem?_setIfInBounds_ne (Ne.symm h2)]
/-- what (*unread).add comes to -/
def Add1Post (B h o room : Nat) (u : Value × Rd) (x : Int) (cur : Array Value) (w : World) (e : Ending) (w' : World) : Prop := e = .returned (.tuple #[]) ∧ ∃ v', KB (fun b => b = h ∨ u.1.ownBlock = some b) w w' ∧ Blk w' h 47 ((cur.setIfInBounds o v').setIfInBounds (o + 1) (.int .i64 ((addR room x u.2).lost : Int))) ∧
  w'.ownsRow B 2 1 v' (addR room x u.2).kept.length (intVals (addR room x u.2).kept) ∧ ∀ b, v'.ownBlock = some b → u.1.ownBlock = some b ∨ w.heap.size ≤ b
theorem one_at {w : World} {g : Nat} {x : Int} (h : Blk w g 2 #[.int .i64 x]) : ∀ j u, [Value.int .i64 x][j]? = some u → w.cell? ((⟨g, 0, none⟩ : Addr).add j) = some u := by
  intro j u hj
  rw [flat_add, h.cell, Nat.zero_add]
  simpa using hj
set_option maxHeartbeats 2000000 in
set_option maxRecDepth 100000 in
theorem add1_more (B h o room : Nat) (v : Value) (K : List Int) (lost : Nat) (x : Int) (cur : Array Value) (w : World) (hcur : Blk w h 47 cur) (hc0 : cur[o]? = some v) (hc1 : cur[o + 1]? = some (.int .i64 (lost : Int))) (hr : w.ownsRow B 2 1 v K.length (intVals K))
    (hroom : room ≤ 100) (hk : K.length < room) (hB : B ≤ w.heap.size) :
    Calls Try.prog 12 #[.pointer (some ⟨h, o, none⟩), .int .i64 x, .int .i64 (room : Int)] w fun e w' => Add1Post B h o room (v, ⟨K, lost⟩) x cur w e w' := by
  obtain ⟨i0, hi0, hz0, hz1, hz2⟩ := info_parts Try.info2
  obtain ⟨A, cap, rfl⟩ := slice_own hr
  have hne : ((K.length : Int) == (room : Int)) = false := beq_false_of_ne (by omega)
  have hne2 : ¬ (K.length : Int) = (room : Int) := by omega
  have c0 := (hcur.cell o).trans hc0
  have f0 := hcur.frozen o
  have HA : Hid (addR room x ⟨K, lost⟩ = ⟨K ++ [x], lost⟩) := Lib.hid (by unfold addR; rw [if_neg (by simp only; omega)])
  have HR := Lib.hid hr
  have HC := Lib.hid hcur
  have HC1 := Lib.hid hc1
  have HI := Lib.hid hi0
  have HZ0 := Lib.hid hz0
  have HZ1 := Lib.hid hz1
  have HZ2 := Lib.hid hz2
  have HRA := Lib.hid (own_below hr (below_box w (.cells #[.int .i64 x] 2)))
  have HBN := Lib.hid (Blk.new w 2 #[.int .i64 x])
  have HBB : Hid (B ≤ (w.alloc (.cells #[.int .i64 x] 2)).heap.size) := Lib.hid (by simp; omega)
  clear hcur hc0 hc1 hr hi0 hz0 hz1 hz2 hB
  go_enter Try.func12, Try.ntmps12
  go_wp2_with (at_builtin; refine wpList_append_own_at _ rfl _ _ 30 rfl B 2 i0 (.int .i64 0) 1 8 Try.underlying30 HI.out HZ0.out HZ1.out HZ2.out rfl (by decide) _ _ _ rfl HRA.out ⟨w.heap.size, 0, none⟩ 1 1 [.int .i64 x] rfl rfl (one_at HBN.out) (int_one x) ?c3 ?c4 HBB.out ?_)
  case c3 => unfold maxLen; omega
  case c4 => omega
  intro v' w4 hown hgrow hnn hloc
  obtain ⟨A', cap', hv'⟩ := slice_own hown
  have HF := Lib.hid (add_fin (o := o) (v0 := .slice A K.length cap) (KB.refl _ w) HC.out HR.out hgrow hown rfl (by simpa using hloc))
  have hb4 := (HC.out.alloc (.cells #[.int .i64 x] 2)).grown hgrow (fun hc => own_else HR.out HC.out (by decide) hc.symm)
  have c04 := (hb4.cell o).trans ((HC.out.cell o).symm.trans c0)
  have f04 := hb4.frozen o
  subst hv'
  clear hown hgrow hnn hloc hb4 c0 f0
  go_wp2_with fail
  go_end0
  obtain ⟨r1, r2, r3, r4⟩ := HF.out
  refine ⟨rfl, _, r1, ?_, ?_, r4⟩
  · rw [HA.out, ← set_same_next _ _ _ _ HC1.out]
    exact r2
  · rw [HA.out, List.length_append, intVals_app]
    exact r3
end Go.Proofs.Ytkcgpjlakhhggaa
