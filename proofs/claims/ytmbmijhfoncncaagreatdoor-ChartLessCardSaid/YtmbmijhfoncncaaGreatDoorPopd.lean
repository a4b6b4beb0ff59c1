/- The contract of parse's reader's operand: a Num, a Var, True or False is read, and written. -/
import Derived.Test.YtmbmijhfoncncaaGreatDoorPop
import Derived.RegionTactic
import Derived.BigRegion
import Derived.StillTactics
import Derived.Laws.Pointers
import Derived.Deep.RegionHeld3
import Derived.Deep.RegionLaw
import Derived.Deep.AppendLies
namespace Go.Proofs.YtmbmijhfoncncaaGreatDoor
open Go.ChangeShapes Go.WideShapes Go.ChangeAt Go.RowKit
set_option linter.unusedVariables false

theorem Blk.drew {w : World} {g : Nat} {t : TypeId} {cs : Array Value} (h : Blk w g t cs) : Blk w.drew g t cs := h
set_option maxHeartbeats 2000000 in
set_option maxRecDepth 100000 in
theorem operand_here (ts : List Tk) (g k b o cap : Nat) (v : Value) (x y z : Int) (out : List Tk) (w : World) (hS : RSt g (.slice (some ⟨b, o, none⟩) ts.length cap) w k v out) (hk : k < ts.length) (hl : ts.length ≤ 1000) (ho : out.length ≤ k) (hb : b < g)
    (h0 : w.cell? ⟨b, o + k * 3, none⟩ = some (.int .i64 x)) (h1 : w.cell? ⟨b, o + k * 3 + 1, none⟩ = some (.int .i64 y)) (h2 : w.cell? ⟨b, o + k * 3 + 2, none⟩ = some (.int .i64 z)) :
    Calls Tryz.prog 94 #[.pointer (some ⟨g, 0, none⟩)] w fun e w' => e = .returned (.tuple #[]) ∧ ∃ v', Kept g v w w' v' ∧ RSt g (.slice (some ⟨b, o, none⟩) ts.length cap) w' (k + 1) v' (out ++ [(x, y, 0)]) := by
  obtain ⟨i0, hi, hz0, hz1, hz2⟩ := info_parts Tryz.info40
  have HI := Lib.hid hi
  have HZ0 := Lib.hid hz0
  have HZ1 := Lib.hid hz1
  have HZ2 := Lib.hid hz2
  have HS := Lib.hid hS
  obtain ⟨⟨c0, c1, c2⟩, f0, f1, f2⟩ := hS.blk.facts3
  have hg := hS.lt
  have hbw : b < w.heap.size := by omega
  have hk0 : (0 : Int) ≤ (k : Int) := Int.natCast_nonneg _
  have hk1 : (k : Int) < (ts.length : Int) := by omega
  clear hi hz0 hz1 hz2 hS
  go_enter Tryz.func94, Tryz.ntmps94
  go_wp2_with fail
  go_region
  all_goals go_wp2_with fail
  clear c0 c1 c2 f0 f1 f2 h0 h1 h2
  have hv : v.ownBlock ≠ some w.heap.size := fun hc => by have := (HS.out.own.lt _ hc).2; omega
  have hvg : v.ownBlock ≠ some g := fun hc => by have := (HS.out.own.lt _ hc).1; omega
  have hs1 : (w.setCell ⟨g, 1, none⟩ (.int .i64 ((k : Int) + 1))).heap.size = w.heap.size := by simp
  have HS1 := Lib.hid (((HS.out.at_ (k + 1)).kept ((Below.refl _ _).alloc (Nat.le_refl _) (.cells #[.int .i64 x, .int .i64 y, .int .i64 z] 101))).drewN 1)
  have HM := Lib.hid ((Blk.new_at (w.setCell ⟨g, 1, none⟩ (.int .i64 ((k : Int) + 1))) 101 #[.int .i64 x, .int .i64 y, .int .i64 z] w.heap.size hs1).drewN 1)
  have HK := Lib.hid ((((Kept.refl g v w).set 1 (.int .i64 ((k : Int) + 1))).alloc (.cells #[.int .i64 x, .int .i64 y, .int .i64 z] 101)).drewN 1)
  clear hs1
  generalize hw1 : ((w.setCell ⟨g, 1, none⟩ (.int .i64 ((k : Int) + 1))).alloc (.cells #[.int .i64 x, .int .i64 y, .int .i64 z] 101)).drew = w1
  have HS2 : Hid (RSt g (.slice (some ⟨b, o, none⟩) ts.length cap) w1 (k + 1) v out) := Lib.hid (by subst hw1; exact HS1.out)
  have HM2 : Hid (Blk w1 w.heap.size 101 #[.int .i64 x, .int .i64 y, .int .i64 z]) := Lib.hid (by subst hw1; exact HM.out)
  have HK2 : Hid (Kept g v w w1 v) := Lib.hid (by subst hw1; exact HK.out)
  clear hw1 HS1 HM HK
  have hm := HM2.out.lt
  generalize w.heap.size = m at *
  have hg1 : g < w1.heap.size := HS2.out.lt
  obtain ⟨⟨_, _, d2⟩, _, _, e2⟩ := HS2.out.blk.facts3
  obtain ⟨⟨a0, a1, a2⟩, _⟩ := HM2.out.facts3
  have hfz := (HS2.out.blk.alloc (.cells #[.int .i64 x, .int .i64 y, .int .i64 0] 101)).frozen 2
  go_region_law
    ((refine step_append_lies _ (by rfl) _ _ _ (by rfl) (g + 1) 101 i0 _ 3 24 Tryz.underlying74 HI.out HZ0.out HZ1.out HZ2.out rfl (by omega) v out.length (tksCells out) (by rfl) ((HS2.out.own.alloc _).drew)
        ⟨w1.heap.size, 0, none⟩ 1 1 (tkCells (x, y, 0)) (by rfl) (by rfl) (World.news_of_block (cs := #[.int .i64 x, .int .i64 y, .int .i64 0]) (t := 101) (fr := (0, 0)) (heap_alloc_new w1 _)) (tk_one _)
        (by omega) (by unfold maxLen; omega) (by omega) (by simp; omega) (w1.heap.size + 1) (by simp) ?_; intro gg cap1 w2 hown1 hgrow hat hlt; obtain ⟨⟨_, _, p2⟩, _, _, q2⟩ := ((HS2.out.blk.alloc _).drew.grown hgrow (Ne.symm hvg)).facts3))
  all_goals
    have HA := Lib.hid (((HS2.out.kept ((Below.refl _ _).alloc (Nat.le_refl _) _)).drewN 1).put hgrow hown1)
    have HB := Lib.hid ((((HK2.out.alloc _).drewN 1).grown hgrow (v2 := .slice (some ⟨gg, 0, none⟩) (out.length + 1) cap1) (by rcases hat with h | h; exact .inl h.symm; right; rw [h]; simp [Value.ownBlock])).set 2 (.slice (some ⟨gg, 0, none⟩) (out.length + 1) cap1))
    go_wp2_with fail
    go_end0
    exact ⟨rfl, _, HB.out, HA.out⟩
theorem operand_any (ts : List Tk) (g k : Nat) (vin v : Value) (out : List Tk) (w : World) (hk : k < ts.length) (hl : ts.length ≤ 1000) (ho : out.length ≤ k) (hT : ToksU g w vin ts) (hS : RSt g vin w k v out) :
    Calls Tryz.prog 94 #[.pointer (some ⟨g, 0, none⟩)] w fun e w' => e = .returned (.tuple #[]) ∧ ∃ v', Kept g v w w' v' ∧ RSt g vin w' (k + 1) v' (out ++ [(knd ts k, num ts k, 0)]) := by
  obtain ⟨A, cap, rfl, hc, hi⟩ := hT
  obtain ⟨b, o, rfl, hb, c0, c1, c2⟩ := hi k ts[k] (List.getElem?_eq_getElem hk)
  rw [knd_at (List.getElem?_eq_getElem hk), num_at (List.getElem?_eq_getElem hk)]
  exact operand_here ts g k b o cap v _ _ _ out w hS hk hl ho hb c0 c1 c2
end Go.Proofs.YtmbmijhfoncncaaGreatDoor
