/- The contracts of what parse's reader reads: ors, ands, nots, comparisons, sums, products, signed ones, brackets; by one induction on the number of steps. -/
import Derived.Test.YtmbmijhfoncncaaGreatDoorProw
import Derived.Test.YtmbmijhfoncncaaGreatDoorPopd
namespace Go.Proofs.YtmbmijhfoncncaaGreatDoor
open Go.ChangeShapes Go.WideShapes Go.ChangeAt Go.RowKit
set_option linter.unusedVariables false

theorem enters61 : Enters 74 := enters_of Tryz.func74 (by kernel_rfl) rfl
theorem enters78 : Enters 84 := enters_of Tryz.func84 (by kernel_rfl) rfl
theorem enters87 : Enters 90 := enters_of Tryz.func90 (by kernel_rfl) rfl
theorem enters95 : Enters 92 := enters_of Tryz.func92 (by kernel_rfl) rfl
theorem lvl_iff (x : Int) : (lvl x = 1 ↔ x = 13) ∧ (lvl x = 2 ↔ x = 12) ∧ (lvl x = 3 ↔ x = 8 ∨ x = 9 ∨ x = 10 ∨ x = 11) ∧ (lvl x = 4 ↔ x = 3 ∨ x = 4) ∧ (lvl x = 5 ↔ x = 5 ∨ x = 6 ∨ x = 7) := by
  unfold lvl
  by_cases h1 : x = 13
  · subst h1; decide
  · by_cases h2 : x = 12
    · subst h2; decide
    · rw [if_neg h1, if_neg h2]
      by_cases h3 : 8 ≤ x ∧ x ≤ 11
      · rw [if_pos h3]; omega
      · rw [if_neg h3]
        by_cases h4 : x = 3 ∨ x = 4
        · rw [if_pos h4]; omega
        · rw [if_neg h4]
          by_cases h5 : 5 ≤ x ∧ x ≤ 7
          · rw [if_pos h5]; omega
          · rw [if_neg h5]; omega
theorem has1 (x : Int) : hasB [13] x = decide (lvl x = 1) := by unfold hasB; rw [decide_eq_decide, (lvl_iff x).1]; simp
theorem has2 (x : Int) : hasB [12] x = decide (lvl x = 2) := by unfold hasB; rw [decide_eq_decide, (lvl_iff x).2.1]; simp
theorem has4 (x : Int) : hasB [3, 4] x = decide (lvl x = 4) := by unfold hasB; rw [decide_eq_decide, (lvl_iff x).2.2.2.1]; simp
theorem has5 (x : Int) : hasB [5, 6, 7] x = decide (lvl x = 5) := by unfold hasB; rw [decide_eq_decide, (lvl_iff x).2.2.2.2]; simp
theorem ints_new (w : World) (xs : List Int) (t : TypeId) : IntsAt (w.alloc (.cells (xs.map fun x => Value.int .i64 x).toArray t)) w.heap.size xs := fun i x hx => by
  rw [(Blk.new w t _).cell]
  simp [hx]
/-- the four rows, each over its own list -/
theorem row_new (ts : List Tk) (g F n lv k : Nat) (vin v : Value) (out : List Tk) (xs : List Int) (R : Res) (w : World) (t : TypeId) (h1 : 1 ≤ lv) (h6 : lv < 6) (h3 : lv ≠ 3) (hF : ∀ m, m ≤ n → Reads ts g vin m (lv + 1) F) (hE : Enters F)
    (hxs : ∀ x, hasB xs x = decide (lvl x = lv)) (hxl : xs.length ≤ 3) (hR : rd ts (n + 1) lv k out = some R) (hk : k ≤ ts.length) (hl : ts.length ≤ 1000) (ho : out.length ≤ k) (hT : ToksU g w vin ts) (hS : RSt g vin w k v out) :
    Calls Tryz.prog 67 #[.pointer (some ⟨g, 0, none⟩), .func (.func F) #[.pointer (some ⟨g, 0, none⟩)] #[], .slice (some ⟨w.heap.size, 0, none⟩) xs.length xs.length] (w.alloc (.cells (xs.map fun x => Value.int .i64 x).toArray t)) (RPost g vin R v w) := by
  have hb : Below w.heap.size w (w.alloc (.cells (xs.map fun x => Value.int .i64 x).toArray t)) := (Below.refl _ _).alloc (Nat.le_refl _) _
  have hg := hS.lt
  refine (row_any ts g F n lv k w.heap.size xs.length vin v out xs R _ h1 h6 h3 hF hE hxs hxl (ints_new w xs t) (by simp) (by omega) (fun hc => by have := (hS.own.lt _ hc).2; omega) hR hk hl ho (hT.below (hb.mono (Nat.le_of_lt hg))) (hS.kept hb)).mono ?_
  intro e w' hp
  cases R with
  | ok k o => obtain ⟨he, v', hk, hs⟩ := hp; exact ⟨he, v', Kept.after hb hk, hs⟩
  | bad k => obtain ⟨he, v', o, hk, hs⟩ := hp; exact ⟨he, v', o, Kept.after hb hk, hs⟩

theorem RPost.ret {g : Nat} {vin v : Value} {R : Res} {w w' : World} {e : Ending} (h : RPost g vin R v w e w') : ∃ b, e = .returned (.bool b) := by
  cases R with
  | ok k o => exact ⟨_, h.1⟩
  | bad k => exact ⟨_, h.1⟩
theorem ors_any (ts : List Tk) (g n : Nat) (vin : Value) (hl : ts.length ≤ 1000) (hF : ∀ m, m ≤ n → Reads ts g vin m 2 68) : Reads ts g vin (n + 1) 1 58 := by
  intro k out R v w hR hk ho hT hS
  have H := Lib.hid (row_new ts g 68 n 1 k vin v out [13] R w 3 (by omega) (by omega) (by omega) hF enters52 has1 (by simp) hR hk hl ho hT hS)
  clear hR hT hS hF
  go_enter Tryz.func58, Tryz.ntmps58
  go_wp2_with fail
  refine H.out.mono ?_
  intro e w' hp
  obtain ⟨b, rfl⟩ := hp.ret
  have HP := Lib.hid hp
  clear hp
  go_wp2_with fail
  go_ret
  exact HP.out
theorem ands_any (ts : List Tk) (g n : Nat) (vin : Value) (hl : ts.length ≤ 1000) (hF : ∀ m, m ≤ n → Reads ts g vin m 3 74) : Reads ts g vin (n + 1) 2 68 := by
  intro k out R v w hR hk ho hT hS
  have H := Lib.hid (row_new ts g 74 n 2 k vin v out [12] R w 3 (by omega) (by omega) (by omega) hF enters61 has2 (by simp) hR hk hl ho hT hS)
  clear hR hT hS hF
  go_enter Tryz.func68, Tryz.ntmps68
  go_wp2_with fail
  refine H.out.mono ?_
  intro e w' hp
  obtain ⟨b, rfl⟩ := hp.ret
  have HP := Lib.hid hp
  clear hp
  go_wp2_with fail
  go_ret
  exact HP.out
theorem sum_any (ts : List Tk) (g n : Nat) (vin : Value) (hl : ts.length ≤ 1000) (hF : ∀ m, m ≤ n → Reads ts g vin m 5 90) : Reads ts g vin (n + 1) 4 84 := by
  intro k out R v w hR hk ho hT hS
  have H := Lib.hid (row_new ts g 90 n 4 k vin v out [3, 4] R w 3 (by omega) (by omega) (by omega) hF enters87 has4 (by simp) hR hk hl ho hT hS)
  clear hR hT hS hF
  go_enter Tryz.func84, Tryz.ntmps84
  go_wp2_with fail
  refine H.out.mono ?_
  intro e w' hp
  obtain ⟨b, rfl⟩ := hp.ret
  have HP := Lib.hid hp
  clear hp
  go_wp2_with fail
  go_ret
  exact HP.out
theorem product_any (ts : List Tk) (g n : Nat) (vin : Value) (hl : ts.length ≤ 1000) (hF : ∀ m, m ≤ n → Reads ts g vin m 6 92) : Reads ts g vin (n + 1) 5 90 := by
  intro k out R v w hR hk ho hT hS
  have H := Lib.hid (row_new ts g 92 n 5 k vin v out [5, 6, 7] R w 3 (by omega) (by omega) (by omega) hF enters95 has5 (by simp) hR hk hl ho hT hS)
  clear hR hT hS hF
  go_enter Tryz.func90, Tryz.ntmps90
  go_wp2_with fail
  refine H.out.mono ?_
  intro e w' hp
  obtain ⟨b, rfl⟩ := hp.ret
  have HP := Lib.hid hp
  clear hp
  go_wp2_with fail
  go_ret
  exact HP.out

/-! ### a not, a comparison -/
theorem cmp_iff (x : Int) (h : lvl x ≠ 3) : (x == 8) = false ∧ (x == 9) = false ∧ (x == 10) = false ∧ (x == 11) = false := by
  have := (lvl_iff x).2.2.1
  simp only [beq_eq_false_iff_ne, ne_eq]
  omega
/-- a post that begins a little later -/
theorem RPost.after {g : Nat} {vin v v0 : Value} {R : Res} {w w0 w' : World} {e : Ending} (hK : Kept g v w w0 v0) (h : RPost g vin R v0 w0 e w') : RPost g vin R v w e w' := by
  cases R with
  | ok k o => obtain ⟨he, v', hk, hs⟩ := h; exact ⟨he, v', hK.trans hk, hs⟩
  | bad k => obtain ⟨he, v', o, hk, hs⟩ := h; exact ⟨he, v', o, hK.trans hk, hs⟩
set_option maxHeartbeats 1000000 in
theorem comparison_bad (ts : List Tk) (g k' : Nat) (vin v : Value) (w : World) (hc : Calls Tryz.prog 84 #[.pointer (some ⟨g, 0, none⟩)] w (RPost g vin (.bad k') v w)) :
    Calls Tryz.prog 78 #[.pointer (some ⟨g, 0, none⟩)] w (RPost g vin (.bad k') v w) := by
  have H := Lib.hid hc
  clear hc
  go_enter Tryz.func78, Tryz.ntmps78
  go_wp2_with fail
  refine H.out.mono ?_
  rintro e w1 ⟨rfl, v1, o1, hk, hs⟩
  have HK := Lib.hid hk
  have HS := Lib.hid hs
  clear hk hs
  go_wp2_with fail
  go_ret
  exact ⟨rfl, _, _, HK.out, HS.out⟩
set_option maxHeartbeats 1000000 in
theorem comparison_one (ts : List Tk) (g k' : Nat) (vin v : Value) (o' : List Tk) (w : World) (hl : ts.length ≤ 1000) (hk' : k' ≤ ts.length) (hg : g ≤ w.heap.size) (hT : ∀ w', Below g w w' → ToksU g w' vin ts) (hB : ∀ w' v', Kept g v w w' v' → Below g w w') (hc : Calls Tryz.prog 84 #[.pointer (some ⟨g, 0, none⟩)] w (RPost g vin (.ok k' o') v w)) (h3 : lvl (knd ts k') ≠ 3) :
    Calls Tryz.prog 78 #[.pointer (some ⟨g, 0, none⟩)] w (RPost g vin (.ok k' o') v w) := by
  have H := Lib.hid hc
  have HT := Lib.hid hT
  have HB := Lib.hid hB
  obtain ⟨n8, n9, n10, n11⟩ := cmp_iff _ h3
  clear hc hT hB h3
  go_enter Tryz.func78, Tryz.ntmps78
  go_wp2_with fail
  refine H.out.mono ?_
  rintro e w1 ⟨rfl, v1, hk, hs⟩
  have HK := Lib.hid hk
  have HS := Lib.hid hs
  clear hk hs
  go_wp2_with fail
  refine (kind_any ts g k' vin v1 _ o' (HT.out _ (HB.out _ _ HK.out)) HS.out hk' (by omega)).mono ?_
  rintro e w2 ⟨rfl, a, rfl⟩
  generalize knd ts k' = x at *
  go_wp2_with fail
  go_ret
  exact ⟨rfl, _, HK.out.drewN a, HS.out.drewN a⟩
set_option maxHeartbeats 1000000 in
theorem comparison_two (ts : List Tk) (g n k' : Nat) (vin v : Value) (o' : List Tk) (R : Res) (x : Int) (w : World) (hl : ts.length ≤ 1000) (hk' : k' < ts.length) (ho' : o'.length ≤ k') (hg : g ≤ w.heap.size) (hT : ∀ w', Below g w w' → ToksU g w' vin ts) (hB : ∀ w' v', Kept g v w w' v' → Below g w w') (hc : Calls Tryz.prog 84 #[.pointer (some ⟨g, 0, none⟩)] w (RPost g vin (.ok k' o') v w))
    (hF : Reads ts g vin n 4 84) (hx : knd ts k' = x) (h3 : x = 8 ∨ x = 9 ∨ x = 10 ∨ x = 11) (hR : thenR (rd ts n 4 (k' + 1) o') (fun k o => some (.ok k (o ++ [(x, 0, 0)]))) = some R) :
    Calls Tryz.prog 78 #[.pointer (some ⟨g, 0, none⟩)] w (RPost g vin R v w) := by
  have H := Lib.hid hc
  have HT := Lib.hid hT
  have HB := Lib.hid hB
  have HX := Lib.hid hx
  have HF := Lib.hid hF
  have HR := Lib.hid hR
  clear hc hT hB hx hF hR
  rcases h3 with rfl | rfl | rfl | rfl
  all_goals
    go_enter Tryz.func78, Tryz.ntmps78
    go_wp2_with fail
    refine H.out.mono ?_
    rintro e w1 ⟨rfl, v1, hk, hs⟩
    have HK := Lib.hid hk
    have HS := Lib.hid hs
    clear hk hs
    go_wp2_with fail
    refine (kind_any ts g k' vin v1 _ o' (HT.out _ (HB.out _ _ HK.out)) HS.out (by omega) (by omega)).mono ?_
    rintro e w2 ⟨rfl, a, rfl⟩
    rw [HX.out]
    go_wp2_with fail
    refine (operator_any ts g 84 n 4 k' _ vin v1 o' R _ HF.out enters78 hk' hl ho' ((HT.out _ (HB.out _ _ HK.out)).drewN a) (HS.out.drewN a) HR.out).mono ?_
    intro e w3 hp
    obtain ⟨b, rfl⟩ := hp.ret
    have HP := Lib.hid (hp.after (HK.out.drewN a))
    clear hp
    go_wp2_with fail
    go_ret
    exact HP.out
theorem comparison_any (ts : List Tk) (g n k : Nat) (vin v : Value) (out : List Tk) (R : Res) (w : World) (hl : ts.length ≤ 1000) (hF : Reads ts g vin n 4 84) (hk : k ≤ ts.length) (ho : out.length ≤ k) (hT : ToksU g w vin ts) (hS : RSt g vin w k v out)
    (hR : thenR (rd ts n 4 k out) (fun k' o => if lvl (knd ts k') = 3 then thenR (rd ts n 4 (k' + 1) o) fun k'' o' => some (.ok k'' (o' ++ [(knd ts k', 0, 0)])) else some (.ok k' o)) = some R) :
    Calls Tryz.prog 78 #[.pointer (some ⟨g, 0, none⟩)] w (RPost g vin R v w) := by
  have hT' : ∀ w', Below g w w' → ToksU g w' vin ts := fun w' h => hT.below h
  have hB' : ∀ w' v', Kept g v w w' v' → Below g w w' := fun w' v' h => hS.below h
  rcases thenR_some hR with ⟨k', h1, rfl⟩ | ⟨k', o', h1, h2⟩
  · exact comparison_bad ts g k' vin v w (hF k out _ v w h1 hk ho hT hS)
  · have hf := rd_fits ts n 4 k out _ h1 hk
    unfold Fits at hf
    by_cases h3 : lvl (knd ts k') = 3
    · rw [if_pos h3] at h2
      exact comparison_two ts g n k' vin v o' R _ w hl (lvl_lt (by omega)) (by omega) (Nat.le_of_lt hS.lt) hT' hB' (hF k out _ v w h1 hk ho hT hS) hF rfl ((lvl_iff _).2.2.1.1 h3) h2
    · rw [if_neg h3] at h2
      injection h2 with h2
      subst h2
      exact comparison_one ts g k' vin v o' w hl (by omega) (Nat.le_of_lt hS.lt) hT' hB' (hF k out _ v w h1 hk ho hT hS) h3
set_option maxHeartbeats 1000000 in
theorem not_any (ts : List Tk) (g n : Nat) (vin : Value) (hl : ts.length ≤ 1000) (hF : Reads ts g vin n 3 74) (hF4 : Reads ts g vin n 4 84) : Reads ts g vin (n + 1) 3 74 := by
  intro k out R v w hR hk ho hT hS
  have HF := Lib.hid hF
  have HF4 := Lib.hid hF4
  have HT := Lib.hid hT
  have HS := Lib.hid hS
  by_cases hc : knd ts k = 14
  · rw [rd3_not n out hc] at hR
    have hlt : k < ts.length := knd_lt (by omega)
    have HR := Lib.hid hR
    have HC := Lib.hid hc
    clear hR hT hS hF hF4 hc
    go_enter Tryz.func74, Tryz.ntmps74
    go_wp2_with fail
    refine (kind_any ts g k vin v _ out HT.out HS.out hk (by omega)).mono ?_
    rintro e w1 ⟨rfl, a, rfl⟩
    rw [HC.out]
    go_wp2_with fail
    refine (operator_any ts g 74 n 3 k _ vin v out R _ HF.out enters61 hlt hl ho (HT.out.drewN a) (HS.out.drewN a) HR.out).mono ?_
    intro e w3 hp
    obtain ⟨b, rfl⟩ := hp.ret
    have HP := Lib.hid (hp.after ((Kept.refl g v w).drewN a))
    clear hp
    go_wp2_with fail
    go_ret
    exact HP.out
  · rw [rd3_cmp n out hc] at hR
    have HR := Lib.hid hR
    have hc' : (knd ts k == 14) = false := by simpa using hc
    clear hR hT hS hF hF4 hc
    go_enter Tryz.func74, Tryz.ntmps74
    go_wp2_with fail
    refine (kind_any ts g k vin v _ out HT.out HS.out hk (by omega)).mono ?_
    rintro e w1 ⟨rfl, a, rfl⟩
    go_wp2_with fail
    refine (comparison_any ts g n k vin v out R _ hl HF4.out hk ho (HT.out.drewN a) (HS.out.drewN a) HR.out).mono ?_
    intro e w3 hp
    obtain ⟨b, rfl⟩ := hp.ret
    have HP := Lib.hid (hp.after ((Kept.refl g v w).drewN a))
    clear hp
    go_wp2_with fail
    go_ret
    exact HP.out
end Go.Proofs.YtmbmijhfoncncaaGreatDoor
