/- errors.Is of a Spot and a Code, and the statements' own question (spinetlaw00.Is) at a Spot: yes, where place and Code are those. -/
import Derived.Test.YtmbmijhfoncncaaGreatDoorZgen
import Derived.Test.YtmbmijhfoncncaaGreatDoorZerrs
namespace Go.Proofs.YtmbmijhfoncncaaGreatDoor
open Go.RowKit Go.Extern.Stop Go.Stop Go.Extern
set_option linter.unusedVariables false

theorem is_typeOf (v : Value) (w : World) : (ReflectliteType.typeOf #[.iface 39 v]).run Tryz.prog w = .ok (.iface 81 (.agg #[.pointer (some ⟨7, 39, none⟩)])) w := by kernel_rfl
theorem is_comp (w : World) : (callFunc 132 #[.agg #[.pointer (some ⟨7, 39, none⟩)]]).run Tryz.prog w = .ok (.value (.bool true)) w := by kernel_rfl
theorem is_mComp (v : Value) (w : World) : (Go.method 287 81 v "Comparable").run Tryz.prog w = .ok (132, v) w := by kernel_rfl
theorem is_mUnwrap (v : Value) (w : World) : (Go.method 287 46 v "Unwrap").run Tryz.prog w = .ok (126, v) w := by kernel_rfl
theorem is_lacks (v : Value) (xT : TypeId) (w : World) : (Instr.typeAssert (.iface 46 v) xT 93 true).run Tryz.prog w = .ok (.tuple #[.nilIface, .bool false]) w := run_typeAssert_lacksB Tryz.underlying93 (by kernel_rfl) (by kernel_rfl) v xT w
theorem is_has (v : Value) (xT : TypeId) (w : World) : (Instr.typeAssert (.iface 46 v) xT 88 true).run Tryz.prog w = .ok (.tuple #[.iface 46 v, .bool true]) w := run_typeAssert_hasB Tryz.underlying88 (by kernel_rfl) v xT w
theorem is_other (a : Option Addr) (n : Int) (w : World) : (binOp .eql 33 (.iface 46 (.pointer a)) (.iface 39 (.int .i64 n))).run Tryz.prog w = .ok (.bool false) w := by kernel_rfl
theorem is_two (a b : Int) (w : World) : (binOp .eql 33 (.iface 39 (.int .i64 a)) (.iface 39 (.int .i64 b))).run Tryz.prog w = .ok (.bool (a == b)) w := by kernel_rfl
theorem is_same2 (n : Int) (w : World) : (binOp .eql 33 (.iface 39 (.int .i64 n)) (.iface 39 (.int .i64 n))).run Tryz.prog w = .ok (.bool true) w := by rw [is_two, beq_self_eq_true]
set_option maxHeartbeats 4000000 in
theorem unwrap_any (g : Nat) (k n : Int) (w : World) (hB : Blk w g 48 #[.int .i64 k, .int .i64 n]) :
    Calls Tryz.prog 126 #[.pointer (some ⟨g, 0, none⟩)] w fun ev w' => ev = .returned (.iface 39 (.int .i64 n)) ∧ w = w' := by
  have c1 : w.cell? ⟨g, 1, none⟩ = some (.int .i64 n) := hB.cell 1
  clear hB
  go_enter Tryz.func126, Tryz.ntmps126
  go_wp2
  go_ret
  exact ⟨rfl, rfl⟩
set_option maxHeartbeats 4000000 in
theorem is_code (g : Nat) (k n : Int) (w : World) (hB : Blk w g 48 #[.int .i64 k, .int .i64 n]) :
    Calls Tryz.prog 20 #[.iface 46 (.pointer (some ⟨g, 0, none⟩)), .iface 39 (.int .i64 n)] w fun ev w' => ev = .returned (.bool true) ∧ w = w' := by
  have h34 := @run_callFunc_extern Tryz.prog 37 _ ReflectliteType.typeOf Tryz.func37 (by kernel_rfl) (by kernel_rfl) (by kernel_rfl) (by kernel_rfl)
  have f1 := is_typeOf
  have f2 := is_comp
  have f3 := is_mComp
  have f4 := is_mUnwrap
  have f5 := is_lacks
  have f6 := is_has
  have f7 := is_other
  have f8 := is_same2 n
  have c1 : w.cell? ⟨g, 1, none⟩ = some (.int .i64 n) := hB.cell 1
  clear hB
  go_enter Tryz.func20, Tryz.ntmps20
  go_wp2
  refine wp_loop_rounds 2 ?_
  rw [rounds_succ]
  go_wp2
  rw [rounds_succ]
  go_wp2
  go_ret
  exact ⟨rfl, rfl⟩
theorem spot_cmp : (Tryz.prog.info? 46).map (·.comparable) = some true := by kernel_rfl
theorem spot_size : (Tryz.prog.info? 48).map (·.size) = some 2 := by kernel_rfl
theorem neq_spot (a : Addr) (w : World) : (binOp .neq 33 (.iface 46 (.pointer (some a))) (.iface 46 (.pointer (some a)))).run Tryz.prog w = .ok (.bool false) w := by
  obtain ⟨i, hi, hc⟩ := Option.map_eq_some_iff.1 spot_cmp
  obtain ⟨j, hj, _⟩ := Option.map_eq_some_iff.1 spot_size
  simp only [binOp]
  simp [Op.equal, Op.maxDepth, run_equalIn_iface_ptr_same w 9998 a Tryz.underlying33 Tryz.underlying46 hi hc hj]
set_option maxHeartbeats 4000000 in
theorem isSpot_yes (g : Nat) (k n : Int) (w : World) (hL : Laid w) (hB : Blk w g 48 #[.int .i64 k, .int .i64 n]) :
    Calls Tryz.prog 13 #[.iface 46 (.pointer (some ⟨g, 0, none⟩)), .int .i64 k, .int .i64 n] w fun ev w' => ev = .returned (.bool true) ∧ Below w.heap.size w w' := by
  have hb1 : Below w.heap.size w (w.alloc (.cells #[.pointer none] 46)) := (Below.refl _ _).alloc (Nat.le_refl _) _
  have HL := Lib.hid (hL.after hb1)
  have b0 := Blk.new w 46 #[.pointer none]
  have hA := asWorld_below (w.alloc (.cells #[.pointer none] 46)) ⟨g, 0, none⟩ ⟨w.heap.size, 0, none⟩
  have b1 := (b0.below hA (by simp)).set_ 0 (.pointer (some ⟨g, 0, none⟩))
  have B1 := Lib.hid b1
  have hb2 := Lib.hid ((hb1.trans (hA.mono (by simp))).setCell (p := ⟨w.heap.size, 0, none⟩) (Nat.le_refl _) (.pointer (some ⟨g, 0, none⟩)))
  have hB2 := Lib.hid (hB.below hb2.out hB.lt)
  have BC := Lib.hid (b0.cell 0)
  have BF := Lib.hid (b0.frozen 0)
  have f1 := neq_spot
  clear hb1 b0 hA b1 hB
  go_enter Tryz.func13, Tryz.ntmps13
  go_wp2_with fail
  refine (as_hit _ _ (.pointer none) _ HL.out BC.out BF.out).mono ?_
  rintro e w' ⟨rfl, rfl⟩
  generalize hW : (asWorld (w.alloc (.cells #[.pointer none] 46)) ⟨g, 0, none⟩ ⟨w.heap.size, 0, none⟩).setCell ⟨w.heap.size, 0, none⟩ (.pointer (some ⟨g, 0, none⟩)) = W at *
  have c0 : W.cell? ⟨w.heap.size, 0, none⟩ = some (.pointer (some ⟨g, 0, none⟩)) := B1.out.cell 0
  have c1 : W.cell? ⟨g, 0, none⟩ = some (.int .i64 k) := hB2.out.cell 0
  have c2 : W.cell? ⟨g, 1, none⟩ = some (.int .i64 n) := hB2.out.cell 1
  clear hW
  go_wp2_with fail
  refine (is_code g k n _ hB2.out).mono ?_
  rintro e w' ⟨rfl, rfl⟩
  go_wp2
  go_ret
  exact ⟨rfl, hb2.out⟩
end Go.Proofs.YtmbmijhfoncncaaGreatDoor
