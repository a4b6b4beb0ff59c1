/- slices.Delete(s, 0, 1) over a row of numbers of the call's own; cells stored one behind the other, exactly. -/
import Derived.Test.YtkcgpjlakhhggaaYdrw
import Derived.Test.YtkcgpjlakhhggaaYgen
import Derived.Shelf.RegionOpenPlain
import Derived.Deep.LoopGhost
import Derived.Deep.RegionLaw
import Derived.Lib.Walk
import Derived.Sort.WalkB12
import Derived.Lib.SlicesDelete
namespace Go.Proofs.Ytkcgpjlakhhggaa
open Go.ChangeShapes Go.WideShapes Go.ChangeAt Go.RowKit
set_option linter.unusedVariables false

/-- cells stored one behind the other into a block, exactly -/
theorem setCells_at {g : Nat} {t : TypeId} : ∀ (vs : List Value) (o : Nat) (w : World) (cur : Array Value), Blk w g t cur → o + vs.length ≤ cur.size →
    ∃ cur', Blk (w.setCells g o vs) g t cur' ∧ cur'.size = cur.size ∧ (∀ q, q < o ∨ o + vs.length ≤ q → cur'[q]? = cur[q]?) ∧ (∀ q, q < vs.length → cur'[o + q]? = vs[q]?) ∧ w.grownBy (w.setCells g o vs) (some g)
  | [], o, w, cur, h, _ => ⟨cur, h, rfl, fun _ _ => rfl, fun q hq => absurd hq (by simp), World.grownBy.refl _ _⟩
  | v :: r, o, w, cur, h, hl => by
    rw [List.length_cons] at hl
    obtain ⟨cur', h1, h2, h3, h4, h5⟩ := setCells_at r (o + 1) (w.setCell ⟨g, o, none⟩ v) _ (h.set_ o v) (by rw [Array.size_setIfInBounds]; omega)
    refine ⟨cur', h1, by rw [h2]; simp, fun q hq => ?_, fun q hq => ?_, grown_trans (grown_set w g o v) h5⟩
    · rw [List.length_cons] at hq
      rw [h3 q (by omega), Array.getElem?_setIfInBounds_ne (by omega)]
    · cases q with
      | zero =>
        rw [h3 _ (by omega), Nat.add_zero, Array.getElem?_setIfInBounds_self]
        rw [if_pos (by omega)]
        rfl
      | succ q =>
        rw [List.length_cons] at hq
        rw [show o + (q + 1) = o + 1 + q by omega, h4 q (by omega)]
        rfl
theorem Try.info2 : (Try.prog.info? 2).map (fun i => (i.zero, i.size, i.bytes)) = some (some (.int .i64 0), 1, 8) := by kernel_rfl
theorem zero2 (w : World) : (zeroValue 2).run Try.prog w = .ok (.int .i64 0) w := by kernel_rfl
theorem del_final {B g cap : Nat} {K : List Int} {x : Int} {w w1 w2 : World} {cur cur1 cur2 : Array Value} (hB : B ≤ g) (hn : K.length + 1 ≤ cap) (hm : cap ≤ maxLen) (hs : cur.size = cap)
    (hK : ∀ q, q < K.length → cur1[q]? = (intVals K)[q]?) (hs1 : cur1.size = cur.size) (hs2 : cur2.size = cur1.size) (hb2 : Blk w2 g 2 cur2) (h2 : ∀ q, q < K.length → cur2[q]? = cur1[q]?) :
    w2.ownsRow B 2 1 (.slice (some ⟨g, 0, none⟩) K.length cap) K.length (intVals K) := by
  refine ⟨by rw [intVals_len]; omega, .inr ⟨g, cap, cur2, rfl, hB, hb2, by omega, hm, by omega, ?_⟩⟩
  refine List.ext_getElem? fun q => ?_
  rw [List.getElem?_take]
  by_cases h : q < K.length
  · rw [if_pos (by omega), Array.getElem?_toList, h2 q h, hK q h]
  · rw [if_neg (by omega), List.getElem?_eq_none (by rw [intVals_len]; omega)]
set_option maxHeartbeats 4000000 in
set_option maxRecDepth 1000000 in
theorem delete0_any (B : Nat) (v : Value) (x : Int) (K : List Int) (w : World) (hr : w.ownsRow B 2 1 v (K.length + 1) (intVals (x :: K))) (hl : K.length ≤ 1000) :
    Calls Try.prog 13 #[v, .int .i64 0, .int .i64 1] w fun e w' => ∃ v', e = .returned v' ∧ w'.ownsRow B 2 1 v' K.length (intVals K) ∧ w.grownBy w' v.ownBlock ∧ v'.ownBlock = v.ownBlock := by
  have mixed : Try.prog.follows .mixedOrders = true := by kernel_rfl
  obtain ⟨i0, hi0, hz0, hz1, hz2⟩ := info_parts Try.info2
  obtain ⟨g, cap, cur, rfl, hB, hb, hnc, hmax, hs, ht⟩ : ∃ g cap cur, v = .slice (some ⟨g, 0, none⟩) (K.length + 1) cap ∧ B ≤ g ∧ Blk w g 2 cur ∧ K.length + 1 ≤ cap ∧ cap ≤ maxLen ∧ cur.size = cap * 1 ∧ cur.toList.take ((K.length + 1) * 1) = intVals (x :: K) := by
    rcases hr.2 with ⟨_, h⟩ | ⟨g, cap, cur, h1, h2, h3, h4, h5, h6, h7⟩
    · omega
    · exact ⟨g, cap, cur, h1, h2, h3, h4, h5, h6, h7⟩
  rw [Nat.mul_one] at hs ht
  have hcell : ∀ q, q < K.length → cur[1 + q]? = (intVals K)[q]? := fun q hq => by
    have h1 : (cur.toList.take (K.length + 1))[q + 1]? = (intVals (x :: K))[q + 1]? := by rw [ht]
    rw [List.getElem?_take, if_pos (by omega), Array.getElem?_toList] at h1
    rw [Nat.add_comm, h1]
    rfl
  obtain ⟨news, hnews⟩ : ∃ news, news = intVals K := ⟨_, rfl⟩
  have hlen : news.length = K.length := by rw [hnews, intVals_len]
  obtain ⟨A, hA, hsrc⟩ : ∃ A : Addr, (if cap = 1 then some (⟨g, 0, none⟩ : Addr) else some ⟨g, 1, none⟩) = some A ∧ Hid (∀ t u, news[t]? = some u → w.drew.cell? (A.add t) = some u) := by
    by_cases h : cap = 1
    · refine ⟨⟨g, 0, none⟩, by simp [h], Lib.hid fun t u hu => ?_⟩
      rw [List.length_eq_zero_iff.1 (show news.length = 0 by omega)] at hu
      simp at hu
    · refine ⟨⟨g, 1, none⟩, by simp [h], Lib.hid fun t u hu => ?_⟩
      have htl := (List.getElem?_eq_some_iff.1 hu).1
      rw [Addr.add_lit]
      show w.cell? _ = _
      rw [hb.cell, hcell t (by omega), ← hnews, hu]
  have s1 : Hid (news.length = K.length * 1) := Lib.hid (by omega)
  have s2 : Hid (∀ u ∈ news, u.oneCell' = true) := Lib.hid (by
    intro u hu
    rw [hnews] at hu
    obtain ⟨y, _, rfl⟩ := List.mem_map.1 hu
    rfl)
  have s3 : Hid (∀ t, t < news.length → (w.drew.cell? ⟨g, 0 + 0 * 1 + t, none⟩).isSome = true ∧ w.drew.frozen? ⟨g, 0 + 0 * 1 + t, none⟩ = false) := Lib.hid (by
    intro t ht'
    refine ⟨?_, hb.frozen _⟩
    show (w.cell? _).isSome = true
    rw [hb.cell, Array.getElem?_eq_getElem (by omega)]
    rfl)
  obtain ⟨W1, hW1⟩ : ∃ W1, W1 = w.drew.setCells g (0 + 0 * 1) news := ⟨_, rfl⟩
  obtain ⟨cur1, hb1, hs1, ho1, hv1, hg1⟩ := setCells_at news (0 + 0 * 1) w.drew cur hb (by omega)
  rw [← hW1] at hb1 hg1
  have hcl : ∀ ty, (Builtin.clear_ #[30] ty #[.slice (some ⟨g, K.length, none⟩) 1 (cap - K.length)]).run Try.prog W1 = .ok (.tuple #[]) (W1.setCells g K.length (List.replicate 1 (.int .i64 0))) :=
    fun ty => Lib.run_clear_slice W1 30 2 ty _ Try.underlying30 zero2 rfl rfl g K.length 1 _ (by omega) (fun t ht => by rw [hb1.cell, Array.getElem?_eq_getElem (by omega)]; rfl) (fun t _ => hb1.frozen _)
  obtain ⟨cur2, hb2, hs2, ho2, hv2, hg2⟩ := setCells_at (List.replicate 1 (Value.int .i64 0)) K.length W1 cur1 hb1 (by simp; omega)
  have HF := Lib.hid (del_final (K := K) (x := x) (w := w) (w1 := W1) (cur := cur) (cur1 := cur1) hB hnc hmax hs (fun q hq => by
    have := hv1 q (by omega)
    rw [Nat.zero_mul, Nat.add_zero, Nat.zero_add] at this
    rw [this, hnews]) hs1 hs2 hb2 (fun q hq => ho2 q (.inl hq)))
  have HG := Lib.hid (grown_trans (grown_trans (⟨rfl, rfl, rfl, Nat.le_refl _, fun _ _ _ => rfl⟩ : w.grownBy w.drew (some g)) hg1) hg2)
  have hW : Hid (W1 = w.drew.setCells g (0 + 0 * 1) news) := Lib.hid hW1
  clear hW1 hb1 hs1 ho1 hv1 hg1 hb2 hs2 ho2 hv2 hg2 hr hs ht hcell hnews hlen hb
  have hle1 : (1 : Int) ≤ (K.length : Int) + 1 := by omega
  go_enter Try.func13, Try.ntmps13
  go_wp2_with fail
  go_region_law (refine step_append_room rfl (.tmp 22) (.tmp 25) 30 rfl 2 i0 1 Try.underlying30 hi0 hz1 g 0 0 cap (by simp [Act.eval, Act.put]) A K.length (cap - 1) news (by simp [Act.eval, Act.put]) s1.out hsrc.out s2.out (by omega) s3.out ?_; rw [← hW.out])
  go_wp2_with fail
  go_ret
  exact ⟨_, rfl, HF.out, HG.out, rfl⟩
end Go.Proofs.Ytkcgpjlakhhggaa
