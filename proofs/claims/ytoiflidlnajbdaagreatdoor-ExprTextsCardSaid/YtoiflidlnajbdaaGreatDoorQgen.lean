/- How the document's Reader (spinetref03) stands in memory; the contracts of its small functions: see, put, Level. -/
import Derived.Test.YtoiflidlnajbdaaGreatDoorProw
import Derived.Deep.RegionWith
namespace Go.Proofs.YtoiflidlnajbdaaGreatDoor
open Go.ChangeShapes Go.WideShapes Go.ChangeAt Go.RowKit
set_option linter.unusedVariables false

theorem Blk.facts4 {w : World} {g : Nat} {t : TypeId} {x y z u : Value} (h : Blk w g t #[x, y, z, u]) :
    (w.cell? ⟨g, 0, none⟩ = some x ∧ w.cell? ⟨g, 1, none⟩ = some y ∧ w.cell? ⟨g, 2, none⟩ = some z ∧ w.cell? ⟨g, 3, none⟩ = some u) ∧ (w.frozen? ⟨g, 0, none⟩ = false ∧ w.frozen? ⟨g, 1, none⟩ = false ∧ w.frozen? ⟨g, 2, none⟩ = false ∧ w.frozen? ⟨g, 3, none⟩ = false) :=
  ⟨⟨h.cell 0, h.cell 1, h.cell 2, h.cell 3⟩, h.frozen 0, h.frozen 1, h.frozen 2, h.frozen 3⟩
structure QSt (g : Nat) (vin : Value) (w : World) (k : Nat) (v : Value) (o : List Tk) (bad : Bool) : Prop where
  blk : Blk w g 65 #[vin, .int .i64 k, v, .bool bad]
  own : w.ownsRow (g + 1) 37 3 v o.length (tksCells o)
theorem QSt.drewN {g k : Nat} {vin v : Value} {w : World} {o : List Tk} {b : Bool} (h : QSt g vin w k v o b) (n : Nat) : QSt g vin (w.drewN n) k v o b := ⟨h.blk.drewN n, h.own⟩
theorem QSt.lt {g k : Nat} {vin v : Value} {w : World} {o : List Tk} {b : Bool} (h : QSt g vin w k v o b) : g < w.heap.size := h.blk.lt
theorem QSt.at_ {g k : Nat} {vin v : Value} {w : World} {o : List Tk} {b : Bool} (h : QSt g vin w k v o b) (k' : Nat) : QSt g vin (w.setCell ⟨g, 1, none⟩ (.int .i64 k')) k' v o b :=
  ⟨h.blk.set_ 1 _, own_set h.own _ _ (Nat.lt_succ_self g)⟩
theorem QSt.bad_ {g k : Nat} {vin v : Value} {w : World} {o : List Tk} {b : Bool} (h : QSt g vin w k v o b) : QSt g vin (w.setCell ⟨g, 3, none⟩ (.bool true)) k v o true :=
  ⟨h.blk.set_ 3 _, own_set h.own _ _ (Nat.lt_succ_self g)⟩
theorem QSt.put_ {g k : Nat} {vin v v' : Value} {w w' : World} {o : List Tk} {b : Bool} {t : Tk} (h : QSt g vin w k v o b) (hg : w.grownBy w' v.ownBlock) (ho : w'.ownsRow (g + 1) 37 3 v' (o.length + 1) (tksCells o ++ tkCells t)) : QSt g vin (w'.setCell ⟨g, 2, none⟩ v') k v' (o ++ [t]) b := by
  have hne : some g ≠ v.ownBlock := fun hc => by have := (h.own.lt g hc.symm).1; omega
  exact ⟨(h.blk.grown hg hne).set_ 2 v', own_set (own_snoc ho) 2 v' (Nat.lt_succ_self g)⟩
theorem QSt.kept {g k : Nat} {vin v : Value} {w w' : World} {o : List Tk} {b : Bool} (h : QSt g vin w k v o b) (hb : Below w.heap.size w w') : QSt g vin w' k v o b := ⟨h.blk.below hb h.blk.lt, own_below h.own hb⟩

/-! ### see -/
theorem see_bad (g k : Nat) (vin v : Value) (w : World) (hB : Blk w g 65 #[vin, .int .i64 k, v, .bool true]) :
    Calls Tryz.prog 40 #[.pointer (some ⟨g, 0, none⟩)] w fun e w' => e = .returned (.int .i64 0) ∧ ∃ n, w' = w.drewN n := by
  obtain ⟨⟨c0, c1, c2, c3⟩, _⟩ := hB.facts4
  clear hB
  go_enter Tryz.func40, Tryz.ntmps40
  go_wp2
  go_quiet (fail)
  go_wp2
  go_ret
  exact ⟨rfl, _, rfl⟩
theorem see_end (g : Nat) (vin v : Value) (ts : List Tk) (w : World) (A : Option Addr) (cap : Nat) (hv : vin = .slice A ts.length cap) (hB : Blk w g 65 #[vin, .int .i64 ts.length, v, .bool false]) (hl : ts.length ≤ 1000000) :
    Calls Tryz.prog 40 #[.pointer (some ⟨g, 0, none⟩)] w fun e w' => e = .returned (.int .i64 0) ∧ ∃ n, w' = w.drewN n := by
  subst hv
  obtain ⟨⟨c0, c1, c2, c3⟩, _⟩ := hB.facts4
  clear hB
  go_enter Tryz.func40, Tryz.ntmps40
  go_wp2
  go_quiet (fail)
  go_wp2
  go_ret
  exact ⟨rfl, _, rfl⟩
theorem see_here (g k b o cap : Nat) (v : Value) (ts : List Tk) (x : Int) (w : World) (hB : Blk w g 65 #[.slice (some ⟨b, o, none⟩) ts.length cap, .int .i64 k, v, .bool false]) (hk : k < ts.length) (hl : ts.length ≤ 1000000) (hx : w.cell? ⟨b, o + k * 3, none⟩ = some (.int .i64 x)) :
    Calls Tryz.prog 40 #[.pointer (some ⟨g, 0, none⟩)] w fun e w' => e = .returned (.int .i64 x) ∧ ∃ n, w' = w.drewN n := by
  obtain ⟨⟨c0, c1, c2, c3⟩, _⟩ := hB.facts4
  have hd : decide (ts.length ≤ k) = false := by simp; omega
  have hk' : (k : Int) < (ts.length : Int) := by omega
  clear hB
  go_enter Tryz.func40, Tryz.ntmps40
  go_wp2
  go_quiet (fail)
  go_wp2
  go_quiet (fail)
  go_wp2
  go_ret
  exact ⟨rfl, _, drewN_two _ _ _⟩
theorem see_any (ts : List Tk) (g k : Nat) (vin v : Value) (w : World) (o : List Tk) (hT : ToksU g w vin ts) (hS : QSt g vin w k v o false) (hk : k ≤ ts.length) (hl : ts.length ≤ 1000000) :
    Calls Tryz.prog 40 #[.pointer (some ⟨g, 0, none⟩)] w fun e w' => e = .returned (.int .i64 (knd ts k)) ∧ ∃ n, w' = w.drewN n := by
  obtain ⟨A, cap, hv, hc, hi⟩ := hT
  rcases Nat.lt_or_ge k ts.length with hlt | hge
  · obtain ⟨b, o, rfl, hb, c0, c1, c2⟩ := hi k ts[k] (List.getElem?_eq_getElem hlt)
    rw [knd_at (List.getElem?_eq_getElem hlt)]
    subst hv
    exact see_here g k b o cap v ts _ w hS.blk hlt hl c0
  · obtain rfl : k = ts.length := by omega
    rw [knd_end]
    exact see_end g vin v ts w A cap hv hS.blk hl

/-! ### put -/
set_option maxHeartbeats 1000000 in
set_option maxRecDepth 100000 in
theorem put_any (g k : Nat) (kd x : Int) (vin v : Value) (o : List Tk) (b : Bool) (w : World) (hS : QSt g vin w k v o b) (ho : o.length ≤ 1000000) :
    Calls Tryz.prog 41 #[.pointer (some ⟨g, 0, none⟩), .int .i64 kd, .int .i64 x] w fun e w' => e = .returned (.tuple #[]) ∧ Below g w w' ∧ ∃ v', QSt g vin w' k v' (o ++ [(kd, x, 0)]) b := by
  obtain ⟨i0, hi, hz0, hz1, hz2⟩ := info_parts Tryz.info40
  have HI := Lib.hid hi
  have HZ0 := Lib.hid hz0
  have HZ1 := Lib.hid hz1
  have HZ2 := Lib.hid hz2
  have HS1 := Lib.hid hS
  have hg := hS.lt
  obtain ⟨⟨d0, d1, d2, d3⟩, e0, e1, e2, e3⟩ := hS.blk.facts4
  clear hi hz0 hz1 hz2 hS
  go_enter Tryz.func41, Tryz.ntmps41
  go_wp2_with (at_builtin; refine wpList_append_own_at _ rfl _ _ 38 rfl (g + 1) 37 i0 (.agg #[.int .i64 0, .int .i64 0, .int .i64 0]) 3 24 Tryz.underlying38 HI.out HZ0.out HZ1.out HZ2.out rfl (by decide) _ _ _ rfl (HS1.out.own.alloc _) ⟨w.heap.size, 0, none⟩ 1 1 (tkCells (kd, x, 0)) rfl rfl ?c1 ?c2 ?c3 ?c4 ?c5 ?_)
  case c1 => exact new_cells _ _ (kd, x, 0) _ rfl
  case c2 => exact tk_one _
  case c3 => unfold maxLen; omega
  case c4 => omega
  case c5 => simp; omega
  intro v2 w2 hown hgrow _ hrow
  obtain ⟨g2, cap2, rfl⟩ := slice_of_own hown
  have HA := Lib.hid ((HS1.out.kept ((Below.refl _ _).alloc (Nat.le_refl _) _)).put_ hgrow hown)
  have HB := Lib.hid ((((Below.refl g w).alloc (Nat.le_of_lt hg) _).grown hgrow (by simp; omega) (fun j hj => by have := (HS1.out.own.lt j hj).1; omega)).setCell (p := ⟨g, 2, none⟩) (by simp) (.slice (some ⟨g2, 0, none⟩) (o.length + 1) cap2))
  have hne : some g ≠ v.ownBlock := fun hc => by have := (HS1.out.own.lt g hc.symm).1; omega
  obtain ⟨⟨d0, d1, d2, d3⟩, e0, e1, e2, e3⟩ := ((HS1.out.blk.alloc _).grown hgrow hne).facts4
  clear hown hgrow hrow hne
  go_wp2
  go_end0
  exact ⟨rfl, HB.out, _, HA.out⟩

/-! ### Level -/
set_option maxHeartbeats 1000000 in
theorem level_any (x : Int) (w : World) : Calls Tryz.prog 42 #[.int .i64 x] w fun e w' => e = .returned (.int .i64 (lvl x : Nat)) ∧ w = w' := by
  go_enter Tryz.func42, Tryz.ntmps42
  go_wp2
  all_goals
    go_ret
    refine ⟨ret_int ?_, rfl⟩
    unfold lvl
    (repeat' split) <;> first | rfl | (exfalso; simp_all; omega) | (exfalso; simp_all) | (exfalso; omega)
end Go.Proofs.YtoiflidlnajbdaaGreatDoor
