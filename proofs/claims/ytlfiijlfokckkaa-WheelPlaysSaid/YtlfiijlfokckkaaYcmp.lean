/- The comparison of two timers by At. -/
import Derived.Test.YtlfiijlfokckkaaYpure
import Derived.Shelf.SlSortCmp.KitK
namespace Go.Proofs.Ytlfiijlfokckkaa
open Go.ChangeShapes Go.WideShapes Go.ChangeAt Go.RowKit Go.Sort
set_option linter.unusedVariables false

def encT (t : Tm) : List Value := [.int .i64 t.id, .int .i64 t.tick, .int .i64 t.wh]
def cmpI (x y : Int) : Int := if x < y then -1 else if x > y then 1 else 0
def cmpT (x y : Tm) : Int := cmpI x.tick y.tick
theorem cmpI_lt {x y : Int} : (cmpI x y < 0) ↔ x < y := by
  unfold cmpI
  split
  · simp [*]
  · split <;> simp <;> omega
theorem cmpT_lt {x y : Tm} : (cmpT x y < 0) ↔ x.tick < y.tick := cmpI_lt
theorem isNaN_any (x : Int) (w : World) : Calls Try.prog 22 #[.int .i64 x] w fun e w' => w' = w ∧ e = .returned (.bool false) := by
  go_enter Try.func22, Try.ntmps22
  go_wp2_with fail
  go_ret
  simp
theorem compare_any (x y : Int) (w : World) : Calls Try.prog 20 #[.int .i64 x, .int .i64 y] w fun e w' => w' = w ∧ e = .returned (.int .i64 (cmpI x y)) := by
  have HN := Lib.hid isNaN_any
  have HR : Hid (cmpI x y = if x < y then -1 else if x > y then 1 else 0) := Lib.hid rfl
  generalize cmpI x y = R at *
  rcases Int.lt_trichotomy x y with h | h | h
  · have HR1 : Hid (R = -1) := Lib.hid (by rw [HR.out, if_pos h])
    go_enter Try.func20, Try.ntmps20
    go_wp2_with (first | (go_at_call 22; refine (HN.out _ _).mono ?_; rintro e w1 ⟨rfl, rfl⟩) | fail)
    go_ret
    exact ⟨rfl, by rw [HR1.out]; rfl⟩
  · have h1 : ¬ x < y := by omega
    have h2 : ¬ x > y := by omega
    have h3 : ¬ y < x := by omega
    have HR1 : Hid (R = 0) := Lib.hid (by rw [HR.out, if_neg h1, if_neg h2])
    go_enter Try.func20, Try.ntmps20
    go_wp2_with (first | (go_at_call 22; refine (HN.out _ _).mono ?_; rintro e w1 ⟨rfl, rfl⟩) | fail)
    go_ret
    exact ⟨rfl, by rw [HR1.out]; rfl⟩
  · have h1 : ¬ x < y := by omega
    have HR1 : Hid (R = 1) := Lib.hid (by rw [HR.out, if_neg h1, if_pos (by omega : x > y)])
    go_enter Try.func20, Try.ntmps20
    go_wp2_with (first | (go_at_call 22; refine (HN.out _ _).mono ?_; rintro e w1 ⟨rfl, rfl⟩) | fail)
    go_ret
    exact ⟨rfl, by rw [HR1.out]; rfl⟩
theorem due1_any (x y : Tm) (w : World) : Calls Try.prog 19 #[.agg (encT x).toArray, .agg (encT y).toArray] w fun e w' => e = .returned (.int .i64 (cmpT x y)) ∧ ∃ q os', w' = grow (w.drewN q) os' := by
  have HC := Lib.hid (compare_any x.tick y.tick)
  have HR : Hid (cmpT x y = cmpI x.tick y.tick) := Lib.hid rfl
  generalize cmpT x y = R at *
  obtain ⟨i, t, h⟩ := x
  obtain ⟨i', t', h'⟩ := y
  simp only at HC HR
  generalize cmpI t t' = R' at *
  simp only [encT]
  go_enter Try.func19, Try.ntmps19
  go_wp2_with (first | (go_at_call 20; refine (HC.out _).mono ?_; rintro e w1 ⟨rfl, rfl⟩) | fail)
  go_ret
  refine ⟨by rw [HR.out] <;> rfl, 0, #[.cells #[.int .i64 i, .int .i64 t, .int .i64 h] 30, .cells #[.int .i64 i', .int .i64 t', .int .i64 h'] 30], ?_⟩
  rw [alloc_eq_grow, alloc_eq_grow, grow_grow]
  rfl
end Go.Proofs.Ytlfiijlfokckkaa
