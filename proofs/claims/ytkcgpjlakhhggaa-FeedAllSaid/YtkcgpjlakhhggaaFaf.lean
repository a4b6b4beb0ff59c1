/- (*unread).add where there is no room left. -/
import Derived.Test.YtkcgpjlakhhggaaFad
namespace Go.Proofs.Ytkcgpjlakhhggaa
open Go.ChangeShapes Go.WideShapes Go.ChangeAt Go.RowKit
set_option linter.unusedVariables false

set_option maxHeartbeats 4000000 in
set_option maxRecDepth 100000 in
theorem add1_full (B h o room : Nat) (v : Value) (K : List Int) (lost : Nat) (x : Int) (cur : Array Value) (w : World) (hcur : Blk w h 47 cur) (hc0 : cur[o]? = some v) (hc1 : cur[o + 1]? = some (.int .i64 (lost : Int))) (hr : w.ownsRow B 2 1 v K.length (intVals K))
    (hroom1 : 1 ≤ room) (hroom : room ≤ 100) (hk : K.length = room) (hB : B ≤ w.heap.size) (hlost : lost ≤ 1000000) :
    Calls Try.prog 12 #[.pointer (some ⟨h, o, none⟩), .int .i64 x, .int .i64 (room : Int)] w fun e w' => Add1Post B h o room (v, ⟨K, lost⟩) x cur w e w' := by
  obtain ⟨i0, hi0, hz0, hz1, hz2⟩ := info_parts Try.info2
  subst hk
  obtain ⟨y, K', rfl⟩ : ∃ y K', K = y :: K' := by
    cases K with
    | nil => simp at hroom1
    | cons y K' => exact ⟨y, K', rfl⟩
  obtain ⟨A, cap, rfl⟩ := slice_own hr
  have HD := Lib.hid (delete0_any B _ y K' w (by simpa using hr) (by simp at hroom; omega))
  rw [List.length_cons] at *
  obtain ⟨n, hn⟩ : ∃ n, n = K'.length := ⟨_, rfl⟩
  have HN := Lib.hid hn
  rw [← hn] at HD hr hroom hc0 ⊢
  clear hroom1
  have c0 := (hcur.cell o).trans hc0
  have f0 := hcur.frozen o
  have HA : Hid (addR (n + 1) x ⟨y :: K', lost⟩ = ⟨K' ++ [x], lost + 1⟩) := Lib.hid (by unfold addR; rw [if_pos (by simp only; rw [List.length_cons, hn])]; rfl)
  have HR := Lib.hid hr
  have HC := Lib.hid hcur
  have HC1 := Lib.hid hc1
  have HI := Lib.hid hi0
  have HZ0 := Lib.hid hz0
  have HZ1 := Lib.hid hz1
  have HZ2 := Lib.hid hz2
  have HB := Lib.hid hB
  have hwl : IntKind.i64.wrap ((lost : Int) + 1) = (lost : Int) + 1 := by rw [IntKind.wrap_i64]; omega
  clear hcur hc0 hc1 hr hi0 hz0 hz1 hz2 hB hn
  go_enter Try.func12, Try.ntmps12
  go_wp2_with fail
  refine HD.out.mono ?_
  rintro e w1 ⟨v1, rfl, hown1, hg1, hl1⟩
  obtain ⟨A1, cap1, hv1⟩ := slice_own hown1
  subst hv1
  have hb1 := HC.out.grown hg1 (fun hc => own_else HR.out HC.out (by decide) hc.symm)
  have HB1 := Lib.hid hb1
  have c01 := (hb1.cell o).trans ((HC.out.cell o).symm.trans c0)
  have f01 := hb1.frozen o
  have c11 := (hb1.cell (o + 1)).trans HC1.out
  have f11 := hb1.frozen (o + 1)
  have HO1 := Lib.hid hown1
  have HG1 := Lib.hid hg1
  have HL1 := Lib.hid hl1
  obtain ⟨w3, hw3⟩ : ∃ W, W = (w1.setCell ⟨h, o, none⟩ (.slice A1 n cap1)).setCell ⟨h, o + 1, none⟩ (.int .i64 ((lost : Int) + 1)) := ⟨_, rfl⟩
  have hb3 : Blk w3 h 47 ((cur.setIfInBounds o (.slice A1 n cap1)).setIfInBounds (o + 1) (.int .i64 ((lost : Int) + 1))) := by
    rw [hw3]
    exact (hb1.set_ o _).set_ (o + 1) _
  have hr3 : w3.ownsRow B 2 1 (.slice A1 n cap1) n (intVals K') := by
    rw [hw3]
    exact own_apart (own_apart hown1 hb1 (by decide) o _) (hb1.set_ o _) (by decide) (o + 1) _
  have HK3 : Hid (KB (fun b => b = h ∨ (Value.slice A (n + 1) cap).ownBlock = some b) w w3) := Lib.hid (by
    rw [hw3]
    exact ((KB.of_grown hg1 fun b hb => .inr hb).trans (KB.of_grown (grown_set w1 h o _) fun b hb => by injection hb with hb; exact .inl hb.symm)).trans (KB.of_grown (grown_set _ h (o + 1) _) fun b hb => by injection hb with hb; exact .inl hb.symm))
  have HR3 := Lib.hid hr3
  have HB3 := Lib.hid hb3
  have c03 : w3.cell? ⟨h, o, none⟩ = some (.slice A1 n cap1) := by
    rw [hb3.cell, Array.getElem?_setIfInBounds_ne (by omega), Array.getElem?_setIfInBounds_self, if_pos]
    have := (HC.out.cell o).symm.trans c0
    exact (Array.getElem?_eq_some_iff.1 this).1
  have f03 := hb3.frozen o
  have HRA := Lib.hid (own_below hr3 (below_box w3 (.cells #[.int .i64 x] 2)))
  have HBN := Lib.hid (Blk.new_at w3 2 #[.int .i64 x] w1.heap.size (by rw [hw3]; simp))
  have HBB : Hid (B ≤ (w3.alloc (.cells #[.int .i64 x] 2)).heap.size) := Lib.hid (by have := HK3.out.size; have := HB.out; simp; omega)
  have HW3 := Lib.hid hw3
  clear hown1 hg1 hl1 hb1 hb3 hr3 hw3 c0 f0 HD
  go_wp2_with (at_builtin; rw [← HW3.out]; refine wpList_append_own_at _ rfl _ _ 30 rfl B 2 i0 (.int .i64 0) 1 8 Try.underlying30 HI.out HZ0.out HZ1.out HZ2.out rfl (by decide) _ _ _ rfl HRA.out ⟨w1.heap.size, 0, none⟩ 1 1 [.int .i64 x] rfl rfl (one_at HBN.out) (int_one x) ?c3 ?c4 HBB.out ?_)
  case c3 => unfold maxLen; omega
  case c4 => omega
  intro v' w4 hown hgrow hnn hloc
  obtain ⟨A', cap', hv'⟩ := slice_own hown
  have HF := Lib.hid (add_fin (o := o) (v0 := .slice A (n + 1) cap) HK3.out HB3.out HR3.out hgrow hown HL1.out (by simpa using hloc))
  have hb4 := (HB3.out.alloc (.cells #[.int .i64 x] 2)).grown hgrow (fun hc => own_else HR3.out HB3.out (by decide) hc.symm)
  have c04 := (hb4.cell o).trans ((HB3.out.cell o).symm.trans c03)
  have f04 := hb4.frozen o
  subst hv'
  clear hown hgrow hnn hloc hb4 c03 f03 c01 f01 c11 f11
  go_wp2_with fail
  go_end0
  obtain ⟨r1, r2, r3, r4⟩ := HF.out
  refine ⟨rfl, _, r1, ?_, ?_, r4⟩
  · rw [HA.out]
    rw [set_again] at r2
    exact r2
  · rw [HA.out, List.length_append, intVals_app, ← HN.out]
    exact r3
theorem add1_any (B h o room : Nat) (u : Value × Rd) (x : Int) (cur : Array Value) (w : World) (hcur : Blk w h 47 cur) (hc0 : cur[o]? = some u.1) (hc1 : cur[o + 1]? = some (.int .i64 (u.2.lost : Int))) (hr : w.ownsRow B 2 1 u.1 u.2.kept.length (intVals u.2.kept))
    (hroom1 : 1 ≤ room) (hroom : room ≤ 100) (hk : u.2.kept.length ≤ room) (hB : B ≤ w.heap.size) (hlost : u.2.lost ≤ 1000000) :
    Calls Try.prog 12 #[.pointer (some ⟨h, o, none⟩), .int .i64 x, .int .i64 (room : Int)] w fun e w' => Add1Post B h o room u x cur w e w' := by
  obtain ⟨v, K, lost⟩ := u
  by_cases e : K.length = room
  · exact add1_full B h o room v K lost x cur w hcur hc0 hc1 hr hroom1 hroom e hB hlost
  · exact add1_more B h o room v K lost x cur w hcur hc0 hc1 hr hroom (Nat.lt_of_le_of_ne hk e) hB
end Go.Proofs.Ytkcgpjlakhhggaa
