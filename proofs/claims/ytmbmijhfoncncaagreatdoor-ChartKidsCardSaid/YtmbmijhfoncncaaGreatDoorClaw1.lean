/- The walk of the law ChartKids: true for any chart and any number. -/
import Derived.Test.YtmbmijhfoncncaaGreatDoorCup
import Derived.Test.YtmbmijhfoncncaaGreatDoorCref
namespace Go.Proofs.YtmbmijhfoncncaaGreatDoor
open Go.ChangeShapes Go.WideShapes Go.ChangeAt Go.RowKit
set_option linter.unusedVariables false

theorem kids_short {S : List St} (s : Int) (h : S.length ≤ 1000) : (kids S s).length ≤ 1000 := by unfold kids; have := kidsU_len S s S.length; omega
set_option maxHeartbeats 4000000 in
set_option maxRecDepth 100000 in
theorem law1_any (vs vt : Value) (C : Ch) (s : Int) (w : World) (hL : Laid w) (hC : ChHas w vs vt C) (hS : ShortCh C) :
    Calls Tryz.prog 3 #[.agg #[.int .i64 C.vars, vs, vt], .int .i64 s] w fun e w' => e = .returned (.bool true) ∧ Below w.heap.size w w' := by
  have HL0 := Lib.hid (hL.after (below_box w (chBox C.vars vs vt)))
  have HF := Lib.hid (fun (W : World) (h : Below (w.alloc (chBox C.vars vs vt)).heap.size (w.alloc (chBox C.vars vs vt)) W) => few_any C.vars vs vt C W (hC.below (below_boxed h)) hS)
  have HC := Lib.hid hC
  clear hL hC hS
  cases hf : fewB C with
  | false =>
    have HFF := Lib.hid hf
    clear hf
    go_enter Tryz.func3, Tryz.ntmps3
    go_wp2_with fail
    refine (up_any _ HL0.out).mono ?_
    rintro e w1 ⟨rfl, hb1⟩
    obtain ⟨x0, x1, x2⟩ := box_later hb1
    have HB1 := Lib.hid hb1
    clear hb1
    go_wp2_with fail
    refine (HF.out _ HB1.out).mono ?_
    rintro e w2 ⟨rfl, hb2⟩
    have HB2 := Lib.hid (HB1.out.trans (hb2.mono HB1.out.size))
    rw [HFF.out]
    clear hb2
    go_wp2_with fail
    go_ret
    exact ⟨rfl, below_boxed HB2.out⟩
  | true =>
    have hl : C.sts.length ≤ 1000 := by have := (few_parts hf).1; omega
    have HK := Lib.hid (fun (W : World) (h : Below (w.alloc (chBox C.vars vs vt)).heap.size (w.alloc (chBox C.vars vs vt)) W) => kids_any C.vars s vs vt C W (HC.out.below (below_boxed h)) hl)
    have HR := Lib.hid (fun (W : World) (h : Below (w.alloc (chBox C.vars vs vt)).heap.size (w.alloc (chBox C.vars vs vt)) W) => rkids_any C.vars s vs vt C W (HC.out.below (below_boxed h)) hl)
    have HKS := Lib.hid (kids_short s hl)
    have HFF := Lib.hid hf
    generalize kids C.sts s = L at *
    clear hf hl
    go_enter Tryz.func3, Tryz.ntmps3
    go_wp2_with fail
    refine (up_any _ HL0.out).mono ?_
    rintro e w1 ⟨rfl, hb1⟩
    obtain ⟨x0, x1, x2⟩ := box_later hb1
    have HB1 := Lib.hid hb1
    clear hb1
    go_wp2_with fail
    refine (HF.out _ HB1.out).mono ?_
    rintro e w2 ⟨rfl, hb2⟩
    have hB2 := HB1.out.trans (hb2.mono HB1.out.size)
    clear x0 x1 x2
    obtain ⟨x0, x1, x2⟩ := box_later hB2
    have HB2 := Lib.hid hB2
    rw [HFF.out]
    clear hb2 hB2
    have HG0 : Hid (w.heap.size < (w.alloc (chBox C.vars vs vt)).heap.size) := Lib.hid (by simp)
    go_wp2_with fail
    go_region_held3 (fun w' => w'.cell? ⟨w.heap.size, 0, none⟩ = some (.int .i64 C.vars) ∧ w'.cell? ⟨w.heap.size, 1, none⟩ = some vs ∧ w'.cell? ⟨w.heap.size, 2, none⟩ = some vt ∧ Below (w.alloc (chBox C.vars vs vt)).heap.size (w.alloc (chBox C.vars vs vt)) w') (first | exact ⟨x0, x1, x2, below_drew HB2.out⟩ | exact sx_keep HG0.out (by assumption) (by assumption))
      (first | (go_at_call 9; refine (HK.out _ (by (exact (by assumption : _ ∧ _ ∧ _ ∧ _).2.2.2))).mono ?_; rintro e wk ⟨hbk, vk, rfl, hok⟩) | (go_at_call 10; refine (HR.out _ (by (exact (by assumption : _ ∧ _ ∧ _ ∧ _).2.2.2))).mono ?_; rintro e wr ⟨hbr, vr, rfl, hor⟩) | (go_at_call 8; refine (ints_same _ _ L _ ((list_of_own hok).below hbr) (list_of_own hor) HKS.out).mono ?_; rintro e wi ⟨rfl, hbi⟩))
    have HB4 : Hid (Below (w.alloc (chBox C.vars vs vt)).heap.size (w.alloc (chBox C.vars vs vt)) wi) := Lib.hid (by exact (by assumption : _ ∧ _ ∧ _ ∧ _).2.2.2)
    clear hbk hok hbr hor hbi
    go_wp2_with fail
    go_ret
    exact ⟨rfl, below_boxed HB4.out⟩
end Go.Proofs.YtmbmijhfoncncaaGreatDoor
