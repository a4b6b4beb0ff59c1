/- The contract of parse's reader's whole: an expression, and nothing behind it. -/
import Derived.Test.YtmbmijhfoncncaaGreatDoorPsgn
import Derived.Deep.RegionWith
namespace Go.Proofs.YtmbmijhfoncncaaGreatDoor
open Go.ChangeShapes Go.WideShapes Go.ChangeAt Go.RowKit
set_option linter.unusedVariables false

def isAll (ts : List Tk) (k : Nat) : Bool := decide (k = ts.length)
def WPost (ts : List Tk) (g : Nat) (vin : Value) (R : Res) (v : Value) (w : World) (e : Ending) (w' : World) : Prop :=
  match R with
  | .ok k o => e = .returned (.bool (isAll ts k)) ∧ ∃ v', Kept g v w w' v' ∧ RSt g vin w' k v' o
  | .bad k => e = .returned (.bool false) ∧ ∃ v' o, Kept g v w w' v' ∧ RSt g vin w' k v' o
set_option maxHeartbeats 1000000 in
theorem whole_bad (ts : List Tk) (g k : Nat) (vin v : Value) (w : World) (H0 : ∀ w0, w0 = w.drew → Calls Tryz.prog 58 #[.pointer (some ⟨g, 0, none⟩)] w0 (RPost g vin (.bad k) v w)) :
    Calls Tryz.prog 51 #[.pointer (some ⟨g, 0, none⟩)] w (WPost ts g vin (.bad k) v w) := by
  have H := Lib.hid H0
  clear H0
  go_enter Tryz.func51, Tryz.ntmps51
  go_wp2_with fail
  refine wp_region_any (by kernel_rfl) ?_
  change wpAny _ _ _ _ _ _ _ (World.drew _)
  refine wpAny_take (i := 0) (v := .pointer (some ⟨g, 0, none⟩)) rfl (by kernel_rfl) (by kernel_rfl) (by kernel_rfl) (fun _ _ _ h => h) (Or.inl ⟨by kernel_rfl, fun w => by go_simp⟩) ?_
  simp only [Act.put, List.setIfInBounds_toArray, List.set_cons_zero, List.set_cons_succ, List.getElem_toArray, List.getElem_cons_zero]
  refine wpAny_ready (rs := [1]) (by kernel_rfl) (by simp) ?_
  refine AllReady.cons rfl (fun K hK => ?_) AllReady.nil
  go_simp
  refine (H.out _ rfl).mono ?_
  rintro e w1 ⟨rfl, v1, o1, hk1, hs1⟩
  have HK := Lib.hid hk1
  have HS := Lib.hid hs1
  clear hk1 hs1
  go_simp
  refine hK _ _ ?_
  clear hK K
  refine wpAny_take (i := 2) (v := .bool false) rfl (by kernel_rfl) (by kernel_rfl) (by kernel_rfl) (fun _ _ _ h => h) (Or.inl ⟨by kernel_rfl, fun w => by go_simp⟩) ?_
  simp only [Act.put, List.setIfInBounds_toArray, List.set_cons_zero, List.set_cons_succ, List.getElem_toArray, List.getElem_cons_zero, List.getElem_cons_succ]
  refine wpAny_take (i := 3) (v := undef) rfl (by kernel_rfl) (by kernel_rfl) (by kernel_rfl) (fun _ _ _ h => h) (Or.inr ⟨by kernel_rfl, rfl⟩) ?_
  simp only [Act.put, List.setIfInBounds_toArray, List.set_cons_zero, List.set_cons_succ, List.getElem_toArray, List.getElem_cons_zero, List.getElem_cons_succ]
  refine wpAny_take (i := 4) (v := undef) rfl (by kernel_rfl) (by kernel_rfl) (by kernel_rfl) (fun _ _ _ h => h) (Or.inr ⟨by kernel_rfl, rfl⟩) ?_
  simp only [Act.put, List.setIfInBounds_toArray, List.set_cons_zero, List.set_cons_succ, List.getElem_toArray, List.getElem_cons_zero, List.getElem_cons_succ]
  refine wpAny_take (i := 5) (v := undef) rfl (by kernel_rfl) (by kernel_rfl) (by kernel_rfl) (fun _ _ _ h => h) (Or.inr ⟨by kernel_rfl, rfl⟩) ?_
  simp only [Act.put, List.setIfInBounds_toArray, List.set_cons_zero, List.set_cons_succ, List.getElem_toArray, List.getElem_cons_zero, List.getElem_cons_succ]
  refine wpAny_take (i := 6) (v := undef) rfl (by kernel_rfl) (by kernel_rfl) (by kernel_rfl) (fun _ _ _ h => h) (Or.inr ⟨by kernel_rfl, rfl⟩) ?_
  simp only [Act.put, List.setIfInBounds_toArray, List.set_cons_zero, List.set_cons_succ, List.getElem_toArray, List.getElem_cons_zero, List.getElem_cons_succ]
  refine wpAny_take (i := 7) (v := undef) rfl (by kernel_rfl) (by kernel_rfl) (by kernel_rfl) (fun _ _ _ h => h) (Or.inr ⟨by kernel_rfl, rfl⟩) ?_
  simp only [Act.put, List.setIfInBounds_toArray, List.set_cons_zero, List.set_cons_succ, List.getElem_toArray, List.getElem_cons_zero, List.getElem_cons_succ]
  refine wpAny_take (i := 8) (v := undef) rfl (by kernel_rfl) (by kernel_rfl) (by kernel_rfl) (fun _ _ _ h => h) (Or.inr ⟨by kernel_rfl, rfl⟩) ?_
  simp only [Act.put, List.setIfInBounds_toArray, List.set_cons_zero, List.set_cons_succ, List.getElem_toArray, List.getElem_cons_zero, List.getElem_cons_succ]
  refine wpAny_take (i := 9) (v := undef) rfl (by kernel_rfl) (by kernel_rfl) (by kernel_rfl) (fun _ _ _ h => h) (Or.inr ⟨by kernel_rfl, rfl⟩) ?_
  simp only [Act.put, List.setIfInBounds_toArray, List.set_cons_zero, List.set_cons_succ, List.getElem_toArray, List.getElem_cons_zero, List.getElem_cons_succ]
  refine wpAny_take (i := 10) (v := undef) rfl (by kernel_rfl) (by kernel_rfl) (by kernel_rfl) (fun _ _ _ h => h) (Or.inr ⟨by kernel_rfl, rfl⟩) ?_
  simp only [Act.put, List.setIfInBounds_toArray, List.set_cons_zero, List.set_cons_succ, List.getElem_toArray, List.getElem_cons_zero, List.getElem_cons_succ]
  refine wpAny_take (i := 11) (v := undef) rfl (by kernel_rfl) (by kernel_rfl) (by kernel_rfl) (fun _ _ _ h => h) (Or.inr ⟨by kernel_rfl, rfl⟩) ?_
  simp only [Act.put, List.setIfInBounds_toArray, List.set_cons_zero, List.set_cons_succ, List.getElem_toArray, List.getElem_cons_zero, List.getElem_cons_succ]
  refine wpAny_take (i := 12) (v := undef) rfl (by kernel_rfl) (by kernel_rfl) (by kernel_rfl) (fun _ _ _ h => h) (Or.inr ⟨by kernel_rfl, rfl⟩) ?_
  simp only [Act.put, List.setIfInBounds_toArray, List.set_cons_zero, List.set_cons_succ, List.getElem_toArray, List.getElem_cons_zero, List.getElem_cons_succ]
  refine wpAny_take (i := 13) (v := .bool false) rfl (by kernel_rfl) (by kernel_rfl) (by kernel_rfl) (fun _ _ _ h => h) (Or.inl ⟨by kernel_rfl, fun w => by go_simp⟩) ?_
  simp only [Act.put, List.setIfInBounds_toArray, List.set_cons_zero, List.set_cons_succ, List.getElem_toArray, List.getElem_cons_zero, List.getElem_cons_succ]
  refine wpAny_take (i := 14) (v := .bool false) rfl (by kernel_rfl) (by kernel_rfl) (by kernel_rfl) (fun _ _ _ h => h) (Or.inl ⟨by kernel_rfl, fun w => by go_simp⟩) ?_
  simp only [Act.put, List.setIfInBounds_toArray, List.set_cons_zero, List.set_cons_succ, List.getElem_toArray, List.getElem_cons_zero, List.getElem_cons_succ]
  refine wpAny_done (by kernel_rfl) ?_ _
  go_wp2_with fail
  go_ret
  exact ⟨rfl, _, _, HK.out, HS.out⟩
set_option maxHeartbeats 2000000 in
theorem whole_ok (ts : List Tk) (g k cap : Nat) (A : Option Addr) (v : Value) (o : List Tk) (w : World) (hk : k ≤ ts.length) (hl : ts.length ≤ 1000) (H0 : ∀ w0, w0 = w.drew → Calls Tryz.prog 58 #[.pointer (some ⟨g, 0, none⟩)] w0 (RPost g (.slice A ts.length cap) (.ok k o) v w)) :
    Calls Tryz.prog 51 #[.pointer (some ⟨g, 0, none⟩)] w (WPost ts g (.slice A ts.length cap) (.ok k o) v w) := by
  have H := Lib.hid H0
  have hb : (k == ts.length) = isAll ts k := by unfold isAll; rw [Bool.eq_iff_iff]; simp
  have hb2 : ((k : Int) == (ts.length : Int)) = isAll ts k := by unfold isAll; rw [Bool.eq_iff_iff]; simp; omega
  have hb3 : decide (k = ts.length) = isAll ts k := rfl
  clear H0
  generalize hq : isAll ts k = q at *
  have HQ := Lib.hid hq
  clear hq
  go_enter Tryz.func51, Tryz.ntmps51
  go_wp2_with fail
  first
    | (go_region_with (go_at_call 58; refine (H.out _ rfl).mono ?_; rintro e w1 ⟨rfl, v1, hk1, hs1⟩; have HK := Lib.hid hk1; have HS := Lib.hid hs1; obtain ⟨⟨c0, c1, c2⟩, _⟩ := hs1.blk.facts3; clear hk1 hs1))
    | fail
  all_goals
    go_wp2_with fail
    go_ret
    exact ⟨by rw [HQ.out]; rfl, _, HK.out, HS.out⟩
end Go.Proofs.YtmbmijhfoncncaaGreatDoor
