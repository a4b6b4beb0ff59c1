/- How the document's Reader (spinetref03) stands in memory; the contracts of its small functions: see, put, Level. -/
import Derived.Test.YtafcbgapllkghaaGreatDoorPlev
import Derived.Deep.RegionWith
import Derived.Test.YtafcbgapllkghaaGreatDoorPwhole
namespace Go.Proofs.YtafcbgapllkghaaGreatDoor
open Go.ChangeShapes Go.WideShapes Go.ChangeAt Go.RowKit
set_option linter.unusedVariables false

theorem Blk.facts4 {w : World} {g : Nat} {t : TypeId} {x y z u : Value} (h : Blk w g t #[x, y, z, u]) :
    (w.cell? ⟨g, 0, none⟩ = some x ∧ w.cell? ⟨g, 1, none⟩ = some y ∧ w.cell? ⟨g, 2, none⟩ = some z ∧ w.cell? ⟨g, 3, none⟩ = some u) ∧ (w.frozen? ⟨g, 0, none⟩ = false ∧ w.frozen? ⟨g, 1, none⟩ = false ∧ w.frozen? ⟨g, 2, none⟩ = false ∧ w.frozen? ⟨g, 3, none⟩ = false) :=
  ⟨⟨h.cell 0, h.cell 1, h.cell 2, h.cell 3⟩, h.frozen 0, h.frozen 1, h.frozen 2, h.frozen 3⟩
structure QSt (g : Nat) (vin : Value) (w : World) (k : Nat) (v : Value) (o : List Tk) (bad : Bool) : Prop where
  blk : Blk w g 65 #[vin, .int .i64 k, v, .bool bad]
  own : w.ownsRow (g + 1) 68 3 v o.length (tksCells o)
theorem QSt.drewN {g k : Nat} {vin v : Value} {w : World} {o : List Tk} {b : Bool} (h : QSt g vin w k v o b) (n : Nat) : QSt g vin (w.drewN n) k v o b := ⟨h.blk.drewN n, h.own⟩
theorem QSt.lt {g k : Nat} {vin v : Value} {w : World} {o : List Tk} {b : Bool} (h : QSt g vin w k v o b) : g < w.heap.size := h.blk.lt
theorem QSt.at_ {g k : Nat} {vin v : Value} {w : World} {o : List Tk} {b : Bool} (h : QSt g vin w k v o b) (k' : Nat) : QSt g vin (w.setCell ⟨g, 1, none⟩ (.int .i64 k')) k' v o b :=
  ⟨h.blk.set_ 1 _, own_set h.own _ _ (Nat.lt_succ_self g)⟩
theorem QSt.bad_ {g k : Nat} {vin v : Value} {w : World} {o : List Tk} {b : Bool} (h : QSt g vin w k v o b) : QSt g vin (w.setCell ⟨g, 3, none⟩ (.bool true)) k v o true :=
  ⟨h.blk.set_ 3 _, own_set h.own _ _ (Nat.lt_succ_self g)⟩
theorem QSt.put_ {g k : Nat} {vin v v' : Value} {w w' : World} {o : List Tk} {b : Bool} {t : Tk} (h : QSt g vin w k v o b) (hg : w.grownBy w' v.ownBlock) (ho : w'.ownsRow (g + 1) 68 3 v' (o.length + 1) (tksCells o ++ tkCells t)) : QSt g vin (w'.setCell ⟨g, 2, none⟩ v') k v' (o ++ [t]) b := by
  have hne : some g ≠ v.ownBlock := fun hc => by have := (h.own.lt g hc.symm).1; omega
  exact ⟨(h.blk.grown hg hne).set_ 2 v', own_set (own_snoc ho) 2 v' (Nat.lt_succ_self g)⟩
theorem QSt.kept {g k : Nat} {vin v : Value} {w w' : World} {o : List Tk} {b : Bool} (h : QSt g vin w k v o b) (hb : Below w.heap.size w w') : QSt g vin w' k v o b := ⟨h.blk.below hb h.blk.lt, own_below h.own hb⟩

/-! ### see -/
theorem see_bad (g k : Nat) (vin v : Value) (w : World) (hB : Blk w g 65 #[vin, .int .i64 k, v, .bool true]) :
    Calls Tryz.prog 34 #[.pointer (some ⟨g, 0, none⟩)] w fun e w' => e = .returned (.int .i64 0) ∧ ∃ n, w' = w.drewN n := by
  obtain ⟨⟨c0, c1, c2, c3⟩, _⟩ := hB.facts4
  clear hB
  go_enter Tryz.func34, Tryz.ntmps34
  go_wp2
  go_quiet (fail)
  go_wp2
  go_ret
  exact ⟨rfl, _, rfl⟩
theorem see_end (g : Nat) (vin v : Value) (ts : List Tk) (w : World) (A : Option Addr) (cap : Nat) (hv : vin = .slice A ts.length cap) (hB : Blk w g 65 #[vin, .int .i64 ts.length, v, .bool false]) (hl : ts.length ≤ 1000000) :
    Calls Tryz.prog 34 #[.pointer (some ⟨g, 0, none⟩)] w fun e w' => e = .returned (.int .i64 0) ∧ ∃ n, w' = w.drewN n := by
  subst hv
  obtain ⟨⟨c0, c1, c2, c3⟩, _⟩ := hB.facts4
  clear hB
  go_enter Tryz.func34, Tryz.ntmps34
  go_wp2
  go_quiet (fail)
  go_wp2
  go_ret
  exact ⟨rfl, _, rfl⟩
theorem see_here (g k b o cap : Nat) (v : Value) (ts : List Tk) (x : Int) (w : World) (hB : Blk w g 65 #[.slice (some ⟨b, o, none⟩) ts.length cap, .int .i64 k, v, .bool false]) (hk : k < ts.length) (hl : ts.length ≤ 1000000) (hx : w.cell? ⟨b, o + k * 3, none⟩ = some (.int .i64 x)) :
    Calls Tryz.prog 34 #[.pointer (some ⟨g, 0, none⟩)] w fun e w' => e = .returned (.int .i64 x) ∧ ∃ n, w' = w.drewN n := by
  obtain ⟨⟨c0, c1, c2, c3⟩, _⟩ := hB.facts4
  have hd : decide (ts.length ≤ k) = false := by simp; omega
  have hk' : (k : Int) < (ts.length : Int) := by omega
  clear hB
  go_enter Tryz.func34, Tryz.ntmps34
  go_wp2
  go_quiet (fail)
  go_wp2
  go_quiet (fail)
  go_wp2
  go_ret
  exact ⟨rfl, _, drewN_two _ _ _⟩
theorem see_any (ts : List Tk) (g k : Nat) (vin v : Value) (w : World) (o : List Tk) (hT : ToksU g w vin ts) (hS : QSt g vin w k v o false) (hk : k ≤ ts.length) (hl : ts.length ≤ 1000000) :
    Calls Tryz.prog 34 #[.pointer (some ⟨g, 0, none⟩)] w fun e w' => e = .returned (.int .i64 (knd ts k)) ∧ ∃ n, w' = w.drewN n := by
  obtain ⟨A, cap, hv, hc, hi⟩ := hT
  rcases Nat.lt_or_ge k ts.length with hlt | hge
  · obtain ⟨b, o, rfl, hb, c0, c1, c2⟩ := hi k ts[k] (List.getElem?_eq_getElem hlt)
    rw [knd_at (List.getElem?_eq_getElem hlt)]
    subst hv
    exact see_here g k b o cap v ts _ w hS.blk hlt hl c0
  · obtain rfl : k = ts.length := by omega
    rw [knd_end]
    exact see_end g vin v ts w A cap hv hS.blk hl

/-! ### put -/
set_option maxHeartbeats 1000000 in
set_option maxRecDepth 100000 in
theorem put_any (g k : Nat) (kd x : Int) (vin v : Value) (o : List Tk) (b : Bool) (w : World) (hS : QSt g vin w k v o b) (ho : o.length ≤ 1000000) :
    Calls Tryz.prog 35 #[.pointer (some ⟨g, 0, none⟩), .int .i64 kd, .int .i64 x] w fun e w' => e = .returned (.tuple #[]) ∧ Below g w w' ∧ ∃ v', QSt g vin w' k v' (o ++ [(kd, x, 0)]) b := by
  obtain ⟨i0, hi, hz0, hz1, hz2⟩ := info_parts Tryz.info40
  have HI := Lib.hid hi
  have HZ0 := Lib.hid hz0
  have HZ1 := Lib.hid hz1
  have HZ2 := Lib.hid hz2
  have HS1 := Lib.hid hS
  have hg := hS.lt
  obtain ⟨⟨d0, d1, d2, d3⟩, e0, e1, e2, e3⟩ := hS.blk.facts4
  clear hi hz0 hz1 hz2 hS
  go_enter Tryz.func35, Tryz.ntmps35
  go_wp2_with (at_builtin; refine wpList_append_own_at _ rfl _ _ 52 rfl (g + 1) 68 i0 (.agg #[.int .i64 0, .int .i64 0, .int .i64 0]) 3 24 Tryz.underlying52 HI.out HZ0.out HZ1.out HZ2.out rfl (by decide) _ _ _ rfl (HS1.out.own.alloc _) ⟨w.heap.size, 0, none⟩ 1 1 (tkCells (kd, x, 0)) rfl rfl ?c1 ?c2 ?c3 ?c4 ?c5 ?_)
  case c1 => exact new_cells _ _ (kd, x, 0) _ rfl
  case c2 => exact tk_one _
  case c3 => unfold maxLen; omega
  case c4 => omega
  case c5 => simp; omega
  intro v2 w2 hown hgrow _ hrow
  obtain ⟨g2, cap2, rfl⟩ := slice_of_own hown
  have HA := Lib.hid ((HS1.out.kept ((Below.refl _ _).alloc (Nat.le_refl _) _)).put_ hgrow hown)
  have HB := Lib.hid ((((Below.refl g w).alloc (Nat.le_of_lt hg) _).grown hgrow (by simp; omega) (fun j hj => by have := (HS1.out.own.lt j hj).1; omega)).setCell (p := ⟨g, 2, none⟩) (by simp) (.slice (some ⟨g2, 0, none⟩) (o.length + 1) cap2))
  have hne : some g ≠ v.ownBlock := fun hc => by have := (HS1.out.own.lt g hc.symm).1; omega
  obtain ⟨⟨d0, d1, d2, d3⟩, e0, e1, e2, e3⟩ := ((HS1.out.blk.alloc _).grown hgrow hne).facts4
  clear hown hgrow hrow hne
  go_wp2
  go_end0
  exact ⟨rfl, HB.out, _, HA.out⟩

/-! ### Level -/
set_option maxHeartbeats 1000000 in
theorem level_any (x : Int) (w : World) : Calls Tryz.prog 36 #[.int .i64 x] w fun e w' => e = .returned (.int .i64 (lvl x : Nat)) ∧ w = w' := by
  go_enter Tryz.func36, Tryz.ntmps36
  go_wp2
  all_goals
    go_ret
    refine ⟨ret_int ?_, rfl⟩
    unfold lvl
    (repeat' split) <;> first | rfl | (exfalso; simp_all; omega) | (exfalso; simp_all) | (exfalso; omega)
end Go.Proofs.YtafcbgapllkghaaGreatDoor
/- The contract of the document's Reader.one: a signed one. -/
namespace Go.Proofs.YtafcbgapllkghaaGreatDoor
open Go.ChangeShapes Go.WideShapes Go.ChangeAt Go.RowKit
set_option linter.unusedVariables false

/-- what the Reader's functions come to, begun at (k0, o0) -/
def QPost (g : Nat) (vin : Value) (k0 : Nat) (o0 : List Tk) (R : Res) (w : World) (e : Ending) (w' : World) : Prop :=
  e = .returned (.tuple #[]) ∧ Below g w w' ∧ match R with
    | .ok k o => ∃ v', QSt g vin w' k v' o false
    | .bad k => ∃ v' o, QSt g vin w' k v' o true ∧ o.length + k0 ≤ o0.length + k
def QOne (ts : List Tk) (g : Nat) (vin : Value) (n : Nat) : Prop :=
  ∀ (k : Nat) (out : List Tk) (R : Res) (v : Value) (w : World), rd ts n 6 k out = some R → k ≤ ts.length → out.length ≤ k → ToksU g w vin ts → QSt g vin w k v out false →
    Calls Tryz.prog 33 #[.pointer (some ⟨g, 0, none⟩)] w (QPost g vin k out R w)
def QReads (ts : List Tk) (g : Nat) (vin : Value) (n lv : Nat) : Prop :=
  ∀ (k : Nat) (out : List Tk) (R : Res) (v : Value) (x : Int) (w : World), rd ts n lv k out = some R → k ≤ ts.length → out.length ≤ k → ToksU g w vin ts → QSt g vin w k v out false → x = (lv : Int) →
    Calls Tryz.prog 22 #[.pointer (some ⟨g, 0, none⟩), .int .i64 x] w (QPost g vin k out R w)
theorem QPost.ret {g k0 : Nat} {vin : Value} {o0 : List Tk} {R : Res} {w w' : World} {e : Ending} (h : QPost g vin k0 o0 R w e w') : e = .returned (.tuple #[]) := h.1

set_option maxHeartbeats 1000000 in
set_option maxRecDepth 100000 in
theorem one_neg (ts : List Tk) (g n k : Nat) (vin v : Value) (out : List Tk) (R : Res) (w : World) (hl : ts.length ≤ 1000) (hF : QOne ts g vin n) (hk : k ≤ ts.length) (ho : out.length ≤ k) (hT : ToksU g w vin ts) (hS : QSt g vin w k v out false)
    (hc : knd ts k = 4) (hR : thenR (rd ts n 6 (k + 1) out) (fun k' o => some (.ok k' (o ++ [(19, 0, 0)]))) = some R) : Calls Tryz.prog 33 #[.pointer (some ⟨g, 0, none⟩)] w (QPost g vin k out R w) := by
  have hlt : k < ts.length := knd_lt (by omega)
  obtain ⟨R1, hR1, rfl⟩ := thenR_op hR
  have HFI := Lib.hid (rd_fits ts n 6 (k + 1) out R1 hR1 hlt)
  have HF := Lib.hid hF
  have HT := Lib.hid hT
  have HS := Lib.hid hS
  have HC := Lib.hid hc
  have HR1 := Lib.hid hR1
  obtain ⟨⟨c0, c1, c2, c3⟩, f0, f1, f2, f3⟩ := hS.blk.facts4
  clear hF hT hS hc hR hR1
  go_enter Tryz.func33, Tryz.ntmps33
  go_wp2_with fail
  refine (see_any ts g k vin v _ out HT.out HS.out hk (by omega)).mono ?_
  rintro e w1 ⟨rfl, a, rfl⟩
  rw [HC.out]
  go_wp2_with fail
  have hb : Below g w (w.setCell ⟨g, 1, none⟩ (.int .i64 ((k : Int) + 1))) := (Below.refl _ _).setCell (by simp) _
  have HT1 := Lib.hid ((HT.out.below hb).drewN a)
  have HS1 := Lib.hid ((HS.out.at_ (k + 1)).drewN a)
  have HB := Lib.hid (below_drewN hb a)
  clear hb
  refine (HF.out (k + 1) out R1 v _ HR1.out hlt (by omega) HT1.out HS1.out).mono ?_
  rintro e w2 ⟨rfl, hb2, hm⟩
  have HB2 := Lib.hid (HB.out.trans hb2)
  clear hb2
  cases R1 with
  | ok k' o' =>
    obtain ⟨v', hs⟩ := hm
    have HS2 := Lib.hid hs
    clear hs
    go_wp2_with fail
    refine (put_any g k' 19 0 vin v' o' false _ HS2.out (by have := HFI.out; unfold Fits at this; omega)).mono ?_
    rintro e w3 ⟨rfl, hb3, v3, hs3⟩
    have HB3 := Lib.hid (HB2.out.trans hb3)
    have HS3 := Lib.hid hs3
    clear hb3 hs3
    go_wp2_with fail
    go_end0
    exact ⟨rfl, HB3.out, v3, HS3.out⟩
  | bad k' =>
    obtain ⟨v', o', hs, hlen⟩ := hm
    have HS2 := Lib.hid hs
    clear hs
    go_wp2_with fail
    refine (put_any g k' 19 0 vin v' o' true _ HS2.out (by have := HFI.out; unfold Fits at this; omega)).mono ?_
    rintro e w3 ⟨rfl, hb3, v3, hs3⟩
    have HB3 := Lib.hid (HB2.out.trans hb3)
    have HS3 := Lib.hid hs3
    clear hb3 hs3
    go_wp2_with fail
    go_end0
    exact ⟨rfl, HB3.out, v3, _, HS3.out, by simp only [List.length_append, List.length_cons, List.length_nil]; omega⟩
set_option maxHeartbeats 2000000 in
set_option maxRecDepth 100000 in
theorem one_opd_here (ts : List Tk) (g k b o cap : Nat) (x y z : Int) (v : Value) (out : List Tk) (w : World) (hl : ts.length ≤ 1000) (hk : k < ts.length) (ho : out.length ≤ k) (hT : ToksU g w (.slice (some ⟨b, o, none⟩) ts.length cap) ts) (hS : QSt g (.slice (some ⟨b, o, none⟩) ts.length cap) w k v out false)
    (hb : b < g) (h0 : w.cell? ⟨b, o + k * 3, none⟩ = some (.int .i64 x)) (h1 : w.cell? ⟨b, o + k * 3 + 1, none⟩ = some (.int .i64 y)) (hx : knd ts k = x) (hc : x = 1 ∨ x = 2 ∨ x = 15 ∨ x = 16) :
    Calls Tryz.prog 33 #[.pointer (some ⟨g, 0, none⟩)] w (QPost g (.slice (some ⟨b, o, none⟩) ts.length cap) k out (.ok (k + 1) (out ++ [(x, y, 0)])) w) := by
  have HT := Lib.hid hT
  have HS := Lib.hid hS
  have HX := Lib.hid hx
  have hk1 : (k : Int) < (ts.length : Int) := by omega
  have hk0 : (0 : Int) ≤ (k : Int) := Int.natCast_nonneg _
  have hg := hS.lt
  have hbw : b < w.heap.size := by omega
  obtain ⟨⟨c0, c1, c2, c3⟩, f0, f1, f2, f3⟩ := hS.blk.facts4
  clear hT hS hx
  rcases hc with rfl | rfl | rfl | rfl
  all_goals
    go_enter Tryz.func33, Tryz.ntmps33
    go_wp2_with fail
    refine (see_any ts g k _ v _ out HT.out HS.out (by omega) (by omega)).mono ?_
    rintro e w1 ⟨rfl, a, rfl⟩
    rw [HX.out]
    go_wp2_with fail
    first
      | (go_region_with (go_at_call 35; refine (put_any g k _ y _ v out false _ ((HS.out.drewN a).drewN 1) (by omega)).mono ?_; rintro e w3 ⟨rfl, hb3, v3, hs3⟩; have HB3 := Lib.hid hb3; have HS3 := Lib.hid hs3; obtain ⟨⟨d0, d1, d2, d3⟩, e0, e1, e2, e3⟩ := hs3.blk.facts4; clear hb3 hs3))
      | fail
    all_goals
      go_wp2_with fail
      go_end0
      exact ⟨rfl, ((below_drewN (below_drewN (Below.refl g w) a) 1).trans HB3.out).setCell (by simp) _, v3, HS3.out.at_ (k + 1)⟩
end Go.Proofs.YtafcbgapllkghaaGreatDoor
/- The contract of the document's Reader.one: brackets, and what can't go on; the whole. -/
namespace Go.Proofs.YtafcbgapllkghaaGreatDoor
open Go.ChangeShapes Go.WideShapes Go.ChangeAt Go.RowKit
set_option linter.unusedVariables false

set_option maxHeartbeats 1000000 in
set_option maxRecDepth 100000 in
theorem one_bad (ts : List Tk) (g k : Nat) (vin v : Value) (out : List Tk) (w : World) (hl : ts.length ≤ 1000) (hk : k ≤ ts.length) (hT : ToksU g w vin ts) (hS : QSt g vin w k v out false)
    (h4 : knd ts k ≠ 4) (ho : isOpd (knd ts k) = false) (h17 : knd ts k ≠ 17) : Calls Tryz.prog 33 #[.pointer (some ⟨g, 0, none⟩)] w (QPost g vin k out (.bad k) w) := by
  have HT := Lib.hid hT
  have HS := Lib.hid hS
  obtain ⟨n1, n2, n15, n16⟩ := opd_not ho
  have n4 : (knd ts k == 4) = false := by simpa using h4
  have n17 : (knd ts k == 17) = false := by simpa using h17
  obtain ⟨⟨c0, c1, c2, c3⟩, f0, f1, f2, f3⟩ := hS.blk.facts4
  clear hT hS h4 ho h17
  go_enter Tryz.func33, Tryz.ntmps33
  go_wp2_with fail
  refine (see_any ts g k _ v _ out HT.out HS.out hk (by omega)).mono ?_
  rintro e w1 ⟨rfl, a, rfl⟩
  generalize knd ts k = x at *
  go_wp2_with fail
  go_end0
  exact ⟨rfl, below_drewN ((Below.refl g w).setCell (by simp) _) a, v, out, (HS.out.bad_).drewN a, by omega⟩
set_option maxHeartbeats 2000000 in
set_option maxRecDepth 100000 in
theorem one_open (ts : List Tk) (g n k : Nat) (vin v : Value) (out : List Tk) (R : Res) (w : World) (hl : ts.length ≤ 1000) (hF : QReads ts g vin n 1) (hk : k ≤ ts.length) (ho : out.length ≤ k) (hT : ToksU g w vin ts) (hS : QSt g vin w k v out false)
    (hc : knd ts k = 17) (hR : thenR (rd ts n 1 (k + 1) out) (fun k' o => if knd ts k' = 18 then some (.ok (k' + 1) o) else some (.bad k')) = some R) : Calls Tryz.prog 33 #[.pointer (some ⟨g, 0, none⟩)] w (QPost g vin k out R w) := by
  have hlt : k < ts.length := knd_lt (by omega)
  have HF := Lib.hid hF
  have HT := Lib.hid hT
  have HS := Lib.hid hS
  have HC := Lib.hid hc
  obtain ⟨⟨c0, c1, c2, c3⟩, f0, f1, f2, f3⟩ := hS.blk.facts4
  obtain ⟨R1, hR1⟩ : ∃ R1, rd ts n 1 (k + 1) out = some R1 := by
    rcases thenR_some hR with ⟨k', h, _⟩ | ⟨k', o', h, _⟩
    · exact ⟨_, h⟩
    · exact ⟨_, h⟩
  have HFI := Lib.hid (rd_fits ts n 1 (k + 1) out R1 hR1 hlt)
  have HR1 := Lib.hid hR1
  rw [hR1] at hR
  have HR := Lib.hid hR
  clear hF hT hS hc hR hR1
  go_enter Tryz.func33, Tryz.ntmps33
  go_wp2_with fail
  refine (see_any ts g k vin v _ out HT.out HS.out hk (by omega)).mono ?_
  rintro e w1 ⟨rfl, a, rfl⟩
  rw [HC.out]
  go_wp2_with fail
  have hb : Below g w (w.setCell ⟨g, 1, none⟩ (.int .i64 ((k : Int) + 1))) := (Below.refl _ _).setCell (by simp) _
  have HT1 := Lib.hid ((HT.out.below hb).drewN a)
  have HS1 := Lib.hid ((HS.out.at_ (k + 1)).drewN a)
  have HB := Lib.hid (below_drewN hb a)
  clear hb
  refine (HF.out (k + 1) out R1 v 1 _ HR1.out hlt (by omega) HT1.out HS1.out rfl).mono ?_
  rintro e w2 ⟨rfl, hb2, hm⟩
  have HT2 := Lib.hid (HT1.out.below hb2)
  have HB2 := Lib.hid (HB.out.trans hb2)
  clear hb2 c0 c1 c2 c3 f0 f1 f2 f3
  cases R1 with
  | ok k' o' =>
    obtain ⟨v', hs⟩ := hm
    have HS2 := Lib.hid hs
    have hf := HFI.out
    unfold Fits at hf
    obtain ⟨⟨c0, c1, c2, c3⟩, f0, f1, f2, f3⟩ := hs.blk.facts4
    clear hs
    by_cases h18 : knd ts k' = 18
    · have hR' := HR.out
      simp only [thenR] at hR'
      rw [if_pos h18] at hR'
      injection hR' with hR'
      subst hR'
      have H18 := Lib.hid h18
      clear h18
      go_wp2_with fail
      refine (see_any ts g k' vin v' _ o' HT2.out HS2.out (by omega) (by omega)).mono ?_
      rintro e w3 ⟨rfl, c, rfl⟩
      rw [H18.out]
      go_wp2_with fail
      go_end0
      exact ⟨rfl, below_drewN (HB2.out.setCell (by simp) _) c, v', (HS2.out.at_ (k' + 1)).drewN c⟩
    · have hR' := HR.out
      simp only [thenR] at hR'
      rw [if_neg h18] at hR'
      injection hR' with hR'
      subst hR'
      have h18' : (knd ts k' == 18) = false := by simpa using h18
      clear h18
      go_wp2_with fail
      refine (see_any ts g k' vin v' _ o' HT2.out HS2.out (by omega) (by omega)).mono ?_
      rintro e w3 ⟨rfl, c, rfl⟩
      generalize knd ts k' = x at *
      go_wp2_with fail
      go_end0
      exact ⟨rfl, below_drewN (HB2.out.setCell (by simp) _) c, v', o', (HS2.out.bad_).drewN c, by omega⟩
  | bad k' =>
    have hR' := HR.out
    simp only [thenR] at hR'
    injection hR' with hR'
    subst hR'
    obtain ⟨v', o', hs, hlen⟩ := hm
    have HS2 := Lib.hid hs
    obtain ⟨⟨c0, c1, c2, c3⟩, f0, f1, f2, f3⟩ := hs.blk.facts4
    clear hs
    go_wp2_with fail
    refine (see_bad g k' vin v' _ HS2.out.blk).mono ?_
    rintro e w3 ⟨rfl, c, rfl⟩
    go_wp2_with fail
    go_end0
    exact ⟨rfl, below_drewN (HB2.out.setCell (by simp) _) c, v', o', (HS2.out.bad_).drewN c, by omega⟩
theorem one_any (ts : List Tk) (g n : Nat) (vin : Value) (hl : ts.length ≤ 1000) (hF : QOne ts g vin n) (hF1 : QReads ts g vin n 1) : QOne ts g vin (n + 1) := by
  intro k out R v w hR hk ho hT hS
  by_cases c4 : knd ts k = 4
  · rw [rd6_neg n out c4] at hR
    exact one_neg ts g n k vin v out R w hl hF hk ho hT hS c4 hR
  · by_cases co : isOpd (knd ts k) = true
    · rw [rd6_opd n out co] at hR
      injection hR with hR
      subst hR
      have hlt := opd_lt co
      have hT' := hT
      obtain ⟨A, cap, rfl, hc, hi⟩ := hT
      obtain ⟨b, o, rfl, hb, c0, c1, c2⟩ := hi k ts[k] (List.getElem?_eq_getElem hlt)
      rw [knd_at (List.getElem?_eq_getElem hlt)] at co
      rw [knd_at (List.getElem?_eq_getElem hlt), num_at (List.getElem?_eq_getElem hlt)]
      exact one_opd_here ts g k b o cap _ _ 0 v out w hl hlt ho hT' hS hb c0 c1 (knd_at (List.getElem?_eq_getElem hlt)) (opd_iff co)
    · by_cases c17 : knd ts k = 17
      · rw [rd6_open n out c17] at hR
        exact one_open ts g n k vin v out R w hl hF1 hk ho hT hS c17 hR
      · rw [rd6_bad n out c4 (by simpa using co) c17] at hR
        injection hR with hR
        subst hR
        exact one_bad ts g k vin v out w hl hk hT hS c4 (by simpa using co) c17
end Go.Proofs.YtafcbgapllkghaaGreatDoor
