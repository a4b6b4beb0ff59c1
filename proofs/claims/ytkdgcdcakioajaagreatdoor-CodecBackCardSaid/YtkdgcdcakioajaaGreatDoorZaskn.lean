/- errors.As, errors.Is and the statements' own question (spinetlaw00.Is) at an error that is a Spot of the program's own: Go's own text of the two is walked, with what the model's entries for internal/reflectlite come to at these types as closed facts. -/
import Derived.Test.YtkdgcdcakioajaaGreatDoorZgen
import Derived.Lib.AtoiErrMem
import Derived.LaidEql
import Derived.LaidEqlPtr
import Derived.Stop.Asserts
import Derived.RowKitTokens
namespace Go.Proofs.YtkdgcdcakioajaaGreatDoor
open Go.RowKit Go.Extern.Stop Go.Stop Go.Extern
set_option linter.unusedVariables false

theorem as_value (t : Addr) (w : World) : (ReflectliteValue.unpack (.iface 57 (.pointer (some t)))).run Tryz.prog w
    = .ok (.agg #[.pointer (some ⟨7, 57, none⟩), .pointer (some ⟨w.heap.size, 0, none⟩), .int .u64 150]) (w.alloc (.cells #[.pointer (some t)] 57)) := by kernel_rfl
theorem as_valueErr (e : Addr) (w : World) : (ReflectliteValue.unpack (.iface 51 (.pointer (some e)))).run Tryz.prog w
    = .ok (.agg #[.pointer (some ⟨7, 51, none⟩), .pointer (some ⟨w.heap.size, 0, none⟩), .int .u64 150]) (w.alloc (.cells #[.pointer (some e)] 51)) := by kernel_rfl
theorem as_type (a : Addr) (w : World) : (ReflectliteValue.methodAny (ReflectliteValue.valueError "reflectlite.Value.Type" 0) (fun t _ _ _ => ReflectliteType.toType t) #[.agg #[.pointer (some ⟨7, 57, none⟩), .pointer (some a), .int .u64 150]]).run Tryz.prog w
    = .ok (.iface 106 (.agg #[.pointer (some ⟨7, 57, none⟩)])) w := by kernel_rfl
theorem as_mKind (h : Value) (w : World) : (Go.method 321 106 (.agg #[h]) "Kind").run Tryz.prog w = .ok (151, h) w := by kernel_rfl
theorem as_mElem (h : Value) (w : World) : (Go.method 321 106 (.agg #[h]) "Elem").run Tryz.prog w = .ok (163, .agg #[h]) w := by kernel_rfl
theorem as_mImpl (h : Value) (w : World) : (Go.method 321 106 (.agg #[h]) "Implements").run Tryz.prog w = .ok (164, .agg #[h]) w := by kernel_rfl
theorem as_mAssign (h : Value) (w : World) : (Go.method 321 106 (.agg #[h]) "AssignableTo").run Tryz.prog w = .ok (161, .agg #[h]) w := by kernel_rfl
theorem as_kind53 (w : World) : ((ReflectliteType.abiMethod fun t => (fun a : Nat => Value.int IntKind.u8 (a : Int)) <$> Rtype.kind t) #[.pointer (some ⟨7, 57, none⟩)]).run Tryz.prog w = .ok (.int .u8 22) w := by kernel_rfl
theorem as_kind45 (w : World) : ((ReflectliteType.abiMethod fun t => (fun a : Nat => Value.int IntKind.u8 (a : Int)) <$> Rtype.kind t) #[.pointer (some ⟨7, 51, none⟩)]).run Tryz.prog w = .ok (.int .u8 22) w := by kernel_rfl
theorem as_elem (w : World) : (ReflectliteType.method ReflectliteType.elem #[.agg #[.pointer (some ⟨7, 57, none⟩)]]).run Tryz.prog w = .ok (.iface 106 (.agg #[.pointer (some ⟨7, 51, none⟩)])) w := by kernel_rfl
theorem as_impl (w : World) : (ReflectliteType.relation "Implements" ReflectliteType.implements_ #[.agg #[.pointer (some ⟨7, 51, none⟩)], .iface 106 (.agg #[.pointer (some ⟨7, 30, none⟩)])]).run Tryz.prog w = .ok (.bool true) w := by kernel_rfl
theorem as_typeOf (v : Value) (w : World) : (ReflectliteType.typeOf #[.iface 51 v]).run Tryz.prog w = .ok (.iface 106 (.agg #[.pointer (some ⟨7, 51, none⟩)])) w := by kernel_rfl
theorem as_assign (w : World) : (ReflectliteType.relation "AssignableTo" ReflectliteType.assignableTo #[.agg #[.pointer (some ⟨7, 51, none⟩)], .iface 106 (.agg #[.pointer (some ⟨7, 51, none⟩)])]).run Tryz.prog w = .ok (.bool true) w := by kernel_rfl
theorem as_parts53 (a : Addr) (w : World) : (ReflectliteValue.parts (.agg #[.pointer (some ⟨7, 57, none⟩), .pointer (some a), .int .u64 150])).run Tryz.prog w = .ok (some (57, a, 150)) w := by kernel_rfl
theorem as_parts45 (a : Addr) (w : World) : (ReflectliteValue.parts (.agg #[.pointer (some ⟨7, 51, none⟩), .pointer (some a), .int .u64 150])).run Tryz.prog w = .ok (some (51, a, 150)) w := by kernel_rfl
theorem as_parts45v (a : Addr) (w : World) : (ReflectliteValue.parts (.agg #[.pointer (some ⟨7, 51, none⟩), .pointer (some a), .int .u64 406])).run Tryz.prog w = .ok (some (51, a, 406)) w := by kernel_rfl
theorem as_elem53 (w : World) : (Rtype.elem? 57).run Tryz.prog w = .ok (some 51) w := by kernel_rfl
theorem as_mk45 (p : Addr) (w : World) : (ReflectliteValue.mk 51 p ReflectliteValue.flagAddr).run Tryz.prog w = .ok (.agg #[.pointer (some ⟨7, 51, none⟩), .pointer (some p), .int .u64 406]) w := by kernel_rfl
theorem as_direct (w : World) : (Rtype.directlyAssignable 51 51).run Tryz.prog w = .ok true w := by kernel_rfl
theorem one_arg {motive : Array Value → Sort _} (v : Value) (h1 : (v : Value) → motive #[v]) (h2 : (x : Array Value) → motive x) : ReflectliteValue.method.match_2 motive #[v] h1 h2 = h1 v := rfl
theorem two_args {motive : Array Value → Sort _} (v x : Value) (h1 : (v x : Value) → motive #[v, x]) (h2 : (x : Array Value) → motive x) : ReflectliteValue.set.match_3 motive #[v, x] h1 h2 = h1 v x := rfl
/-- the target is no nil pointer -/
theorem as_isNil (a p : Addr) (W : World) (ha : W.cell? a = some (.pointer (some p))) :
    (ReflectliteValue.method (ReflectliteValue.valueError "reflectlite.Value.IsNil" 0) ReflectliteValue.isNil #[.agg #[.pointer (some ⟨7, 57, none⟩), .pointer (some a), .int .u64 150]]).run Tryz.prog W = .ok (.bool false) W := by
  delta ReflectliteValue.method
  rw [one_arg]
  simp only [Sem.run_bind, as_parts53, Result.andThen]
  simp [ReflectliteValue.isNil, loadVar, isAgg, underlying, Tryz.underlying57, ha, Result.andThen]
/-- what the target points to, as a variable that can be set -/
theorem as_elemV (a p : Addr) (W : World) (ha : W.cell? a = some (.pointer (some p))) :
    (ReflectliteValue.method (ReflectliteValue.valueError "reflectlite.Value.Elem" 0) ReflectliteValue.elem #[.agg #[.pointer (some ⟨7, 57, none⟩), .pointer (some a), .int .u64 150]]).run Tryz.prog W
      = .ok (.agg #[.pointer (some ⟨7, 51, none⟩), .pointer (some p), .int .u64 406]) W := by
  delta ReflectliteValue.method
  rw [one_arg]
  simp only [Sem.run_bind, as_parts53, Result.andThen]
  simp [ReflectliteValue.elem, loadVar, isAgg, underlying, Tryz.underlying57, ha, Result.andThen, as_elem53, as_mk45]
/-- it is set -/
theorem as_set (ta b e : Addr) (old : Value) (W : World) (hb : W.cell? b = some (.pointer (some e))) (ht : W.cell? ta = some old) (hf : W.frozen? ta = false) :
    (ReflectliteValue.set #[.agg #[.pointer (some ⟨7, 51, none⟩), .pointer (some ta), .int .u64 406], .agg #[.pointer (some ⟨7, 51, none⟩), .pointer (some b), .int .u64 150]]).run Tryz.prog W
      = .ok (.tuple #[]) (W.setCell ta (.pointer (some e))) := by
  delta ReflectliteValue.set
  rw [two_args]
  simp only [Sem.run_bind, as_parts45v, as_parts45, Result.andThen]
  simp [ReflectliteValue.flagAddr, loadVar, isAgg, underlying, Tryz.underlying51, hb, Result.andThen, as_direct, storeVar, Value.cells, storeCells, Addr.add]
  rw [run_store Tryz.prog W ta _ _ (by rfl)]
  simp [ht, hf]
/-- the world in which errors.As sets its target: four new blocks -/
def asWorld (w : World) (e t : Addr) : World :=
  (((w.alloc (.cells #[.pointer (some t)] 57)).alloc (.cells #[.pointer (some ⟨7, 57, none⟩), .pointer (some ⟨w.heap.size, 0, none⟩), .int .u64 150] 78)).alloc (.cells #[.pointer (some ⟨7, 57, none⟩), .pointer (some ⟨w.heap.size, 0, none⟩), .int .u64 150] 78)).alloc (.cells #[.pointer (some e)] 51)
theorem asWorld_below (w : World) (e t : Addr) : Below w.heap.size w (asWorld w e t) :=
  ((((Below.refl _ _).alloc (Nat.le_refl _) _).alloc (by simp) _).alloc (by simp; omega) _).alloc (by simp; omega) _
set_option maxHeartbeats 4000000 in
theorem as_hit (e t : Addr) (old : Value) (w : World) (hL : Laid w) (ht0 : w.cell? t = some old) (hf0 : w.frozen? t = false) :
    Calls Tryz.prog 17 #[.iface 51 (.pointer (some e)), .iface 57 (.pointer (some t))] w fun ev w' => ev = .returned (.bool true) ∧ w' = (asWorld w e t).setCell t (.pointer (some e)) := by
  have hB := asWorld_below w e t
  have h30 := @run_callFunc_extern Tryz.prog 33 _ (fun args => ReflectliteValue.unpack (args.getD 0 (.tuple #[]))) Tryz.func33 (by kernel_rfl) (by kernel_rfl) (by kernel_rfl) (by kernel_rfl)
  have h31 := @run_callFunc_extern Tryz.prog 34 _ (ReflectliteValue.methodAny (ReflectliteValue.valueError "reflectlite.Value.Type" 0) (fun t _ _ _ => ReflectliteType.toType t)) Tryz.func34 (by kernel_rfl) (by kernel_rfl) (by kernel_rfl) (by kernel_rfl)
  have h32 := @run_callFunc_extern Tryz.prog 35 _ (ReflectliteValue.method (ReflectliteValue.valueError "reflectlite.Value.IsNil" 0) ReflectliteValue.isNil) Tryz.func35 (by kernel_rfl) (by kernel_rfl) (by kernel_rfl) (by kernel_rfl)
  have h87 := @run_callFunc_extern Tryz.prog 151 _ (ReflectliteType.abiMethod fun t => do pure (.int .u8 (← Rtype.kind t))) Tryz.func151 (by kernel_rfl) (by kernel_rfl) (by kernel_rfl) (by kernel_rfl)
  have h100 := @run_callFunc_extern Tryz.prog 163 _ (ReflectliteType.method ReflectliteType.elem) Tryz.func163 (by kernel_rfl) (by kernel_rfl) (by kernel_rfl) (by kernel_rfl)
  have h101 := @run_callFunc_extern Tryz.prog 164 _ (ReflectliteType.relation "Implements" ReflectliteType.implements_) Tryz.func164 (by kernel_rfl) (by kernel_rfl) (by kernel_rfl) (by kernel_rfl)
  have h34 := @run_callFunc_extern Tryz.prog 37 _ ReflectliteType.typeOf Tryz.func37 (by kernel_rfl) (by kernel_rfl) (by kernel_rfl) (by kernel_rfl)
  have h98 := @run_callFunc_extern Tryz.prog 161 _ (ReflectliteType.relation "AssignableTo" ReflectliteType.assignableTo) Tryz.func161 (by kernel_rfl) (by kernel_rfl) (by kernel_rfl) (by kernel_rfl)
  have h42 := @run_callFunc_extern Tryz.prog 63 _ (ReflectliteValue.method (ReflectliteValue.valueError "reflectlite.Value.Elem" 0) ReflectliteValue.elem) Tryz.func63 (by kernel_rfl) (by kernel_rfl) (by kernel_rfl) (by kernel_rfl)
  have h43 := @run_callFunc_extern Tryz.prog 64 _ ReflectliteValue.set Tryz.func64 (by kernel_rfl) (by kernel_rfl) (by kernel_rfl) (by kernel_rfl)
  have f1 := as_value
  have f2 := as_valueErr
  have f3 := as_type
  have f4 := as_mKind
  have f5 := as_mElem
  have f6 := as_mImpl
  have f7 := as_mAssign
  have f8 := as_kind53
  have f9 := as_kind45
  have f10 := as_elem
  have f11 := as_impl
  have f12 := as_typeOf
  have f13 := as_assign
  have b0 := Blk.new w 57 #[.pointer (some t)]
  have b1 := b0.alloc (.cells #[.pointer (some ⟨7, 57, none⟩), .pointer (some ⟨w.heap.size, 0, none⟩), .int .u64 150] 78)
  have b2 := b1.alloc (.cells #[.pointer (some ⟨7, 57, none⟩), .pointer (some ⟨w.heap.size, 0, none⟩), .int .u64 150] 78)
  have n1 := as_isNil ⟨w.heap.size, 0, none⟩ t _ (b1.cell 0)
  have n2 := as_elemV ⟨w.heap.size, 0, none⟩ t _ (b2.cell 0)
  have hlt : t.block < w.heap.size := Lib.lt_of_cell ht0
  have b3 : Blk (asWorld w e t) (w.heap.size + 1 + 1 + 1) 51 #[.pointer (some e)] := Blk.new_at _ 51 _ _ (by simp)
  have n3 := as_set t ⟨w.heap.size + 1 + 1 + 1, 0, none⟩ e old (asWorld w e t) (b3.cell 0) ((hB.cell hlt).trans ht0) ((hB.frozen hlt).trans hf0)
  have hg : ((w.alloc (.cells #[.pointer (some t)] 57)).alloc (.cells #[.pointer (some ⟨7, 57, none⟩), .pointer (some ⟨w.heap.size, 0, none⟩), .int .u64 150] 78)).cell? ⟨0, 0, none⟩ = some (.iface 106 (.agg #[.pointer (some ⟨7, 30, none⟩)])) := by
    have h8 := hL.1
    rw [World.cell?_alloc_lt _ _ ⟨0, 0, none⟩ (by simp), World.cell?_alloc_lt _ _ ⟨0, 0, none⟩ (by simp only; omega)]
    simpa using World.var?_cell g0 hL.2.2.1 0
  clear hB b0 b1 b2 b3 hlt
  unfold asWorld at n3 ⊢
  go_enter Tryz.func17, Tryz.ntmps17
  go_wp2
  refine wp_loop_rounds 1 ?_
  rw [rounds_succ]
  go_wp2
  go_ret
  exact ⟨rfl, rfl⟩
end Go.Proofs.YtkdgcdcakioajaaGreatDoor
/- errors.Is of a Spot and a Code, and the statements' own question (spinetlaw00.Is) at a Spot: yes, where place and Code are those. -/
namespace Go.Proofs.YtkdgcdcakioajaaGreatDoor
open Go.RowKit Go.Extern.Stop Go.Stop Go.Extern
set_option linter.unusedVariables false

theorem is_typeOf (v : Value) (w : World) : (ReflectliteType.typeOf #[.iface 42 v]).run Tryz.prog w = .ok (.iface 106 (.agg #[.pointer (some ⟨7, 42, none⟩)])) w := by kernel_rfl
theorem is_comp (w : World) : (callFunc 162 #[.agg #[.pointer (some ⟨7, 42, none⟩)]]).run Tryz.prog w = .ok (.value (.bool true)) w := by kernel_rfl
theorem is_mComp (v : Value) (w : World) : (Go.method 321 106 v "Comparable").run Tryz.prog w = .ok (162, v) w := by kernel_rfl
theorem is_mUnwrap (v : Value) (w : World) : (Go.method 321 51 v "Unwrap").run Tryz.prog w = .ok (156, v) w := by kernel_rfl
theorem is_lacks (v : Value) (xT : TypeId) (w : World) : (Instr.typeAssert (.iface 51 v) xT 118 true).run Tryz.prog w = .ok (.tuple #[.nilIface, .bool false]) w := run_typeAssert_lacksB Tryz.underlying118 (by kernel_rfl) (by kernel_rfl) v xT w
theorem is_has (v : Value) (xT : TypeId) (w : World) : (Instr.typeAssert (.iface 51 v) xT 113 true).run Tryz.prog w = .ok (.tuple #[.iface 51 v, .bool true]) w := run_typeAssert_hasB Tryz.underlying113 (by kernel_rfl) v xT w
theorem is_other (a : Option Addr) (n : Int) (w : World) : (binOp .eql 30 (.iface 51 (.pointer a)) (.iface 42 (.int .i64 n))).run Tryz.prog w = .ok (.bool false) w := by kernel_rfl
theorem is_two (a b : Int) (w : World) : (binOp .eql 30 (.iface 42 (.int .i64 a)) (.iface 42 (.int .i64 b))).run Tryz.prog w = .ok (.bool (a == b)) w := by kernel_rfl
theorem is_same2 (n : Int) (w : World) : (binOp .eql 30 (.iface 42 (.int .i64 n)) (.iface 42 (.int .i64 n))).run Tryz.prog w = .ok (.bool true) w := by rw [is_two, beq_self_eq_true]
set_option maxHeartbeats 4000000 in
theorem unwrap_any (g : Nat) (k n : Int) (w : World) (hB : Blk w g 53 #[.int .i64 k, .int .i64 n]) :
    Calls Tryz.prog 156 #[.pointer (some ⟨g, 0, none⟩)] w fun ev w' => ev = .returned (.iface 42 (.int .i64 n)) ∧ w = w' := by
  have c1 : w.cell? ⟨g, 1, none⟩ = some (.int .i64 n) := hB.cell 1
  clear hB
  go_enter Tryz.func156, Tryz.ntmps156
  go_wp2
  go_ret
  exact ⟨rfl, rfl⟩
set_option maxHeartbeats 4000000 in
theorem is_code (g : Nat) (k n : Int) (w : World) (hB : Blk w g 53 #[.int .i64 k, .int .i64 n]) :
    Calls Tryz.prog 18 #[.iface 51 (.pointer (some ⟨g, 0, none⟩)), .iface 42 (.int .i64 n)] w fun ev w' => ev = .returned (.bool true) ∧ w = w' := by
  have h34 := @run_callFunc_extern Tryz.prog 37 _ ReflectliteType.typeOf Tryz.func37 (by kernel_rfl) (by kernel_rfl) (by kernel_rfl) (by kernel_rfl)
  have f1 := is_typeOf
  have f2 := is_comp
  have f3 := is_mComp
  have f4 := is_mUnwrap
  have f5 := is_lacks
  have f6 := is_has
  have f7 := is_other
  have f8 := is_same2 n
  have c1 : w.cell? ⟨g, 1, none⟩ = some (.int .i64 n) := hB.cell 1
  clear hB
  go_enter Tryz.func18, Tryz.ntmps18
  go_wp2
  refine wp_loop_rounds 2 ?_
  rw [rounds_succ]
  go_wp2
  rw [rounds_succ]
  go_wp2
  go_ret
  exact ⟨rfl, rfl⟩
theorem spot_cmp : (Tryz.prog.info? 51).map (·.comparable) = some true := by kernel_rfl
theorem spot_size : (Tryz.prog.info? 53).map (·.size) = some 2 := by kernel_rfl
theorem neq_spot (a : Addr) (w : World) : (binOp .neq 30 (.iface 51 (.pointer (some a))) (.iface 51 (.pointer (some a)))).run Tryz.prog w = .ok (.bool false) w := by
  obtain ⟨i, hi, hc⟩ := Option.map_eq_some_iff.1 spot_cmp
  obtain ⟨j, hj, _⟩ := Option.map_eq_some_iff.1 spot_size
  simp only [binOp]
  simp [Op.equal, Op.maxDepth, run_equalIn_iface_ptr_same w 9998 a Tryz.underlying30 Tryz.underlying51 hi hc hj]
set_option maxHeartbeats 4000000 in
theorem isSpot_yes (g : Nat) (k n : Int) (w : World) (hL : Laid w) (hB : Blk w g 53 #[.int .i64 k, .int .i64 n]) :
    Calls Tryz.prog 9 #[.iface 51 (.pointer (some ⟨g, 0, none⟩)), .int .i64 k, .int .i64 n] w fun ev w' => ev = .returned (.bool true) ∧ Below w.heap.size w w' := by
  have hb1 : Below w.heap.size w (w.alloc (.cells #[.pointer none] 51)) := (Below.refl _ _).alloc (Nat.le_refl _) _
  have HL := Lib.hid (hL.after hb1)
  have b0 := Blk.new w 51 #[.pointer none]
  have hA := asWorld_below (w.alloc (.cells #[.pointer none] 51)) ⟨g, 0, none⟩ ⟨w.heap.size, 0, none⟩
  have b1 := (b0.below hA (by simp)).set_ 0 (.pointer (some ⟨g, 0, none⟩))
  have B1 := Lib.hid b1
  have hb2 := Lib.hid ((hb1.trans (hA.mono (by simp))).setCell (p := ⟨w.heap.size, 0, none⟩) (Nat.le_refl _) (.pointer (some ⟨g, 0, none⟩)))
  have hB2 := Lib.hid (hB.below hb2.out hB.lt)
  have BC := Lib.hid (b0.cell 0)
  have BF := Lib.hid (b0.frozen 0)
  have f1 := neq_spot
  clear hb1 b0 hA b1 hB
  go_enter Tryz.func9, Tryz.ntmps9
  go_wp2_with fail
  refine (as_hit _ _ (.pointer none) _ HL.out BC.out BF.out).mono ?_
  rintro e w' ⟨rfl, rfl⟩
  generalize hW : (asWorld (w.alloc (.cells #[.pointer none] 51)) ⟨g, 0, none⟩ ⟨w.heap.size, 0, none⟩).setCell ⟨w.heap.size, 0, none⟩ (.pointer (some ⟨g, 0, none⟩)) = W at *
  have c0 : W.cell? ⟨w.heap.size, 0, none⟩ = some (.pointer (some ⟨g, 0, none⟩)) := B1.out.cell 0
  have c1 : W.cell? ⟨g, 0, none⟩ = some (.int .i64 k) := hB2.out.cell 0
  have c2 : W.cell? ⟨g, 1, none⟩ = some (.int .i64 n) := hB2.out.cell 1
  clear hW
  go_wp2_with fail
  refine (is_code g k n _ hB2.out).mono ?_
  rintro e w' ⟨rfl, rfl⟩
  go_wp2
  go_ret
  exact ⟨rfl, hb2.out⟩
end Go.Proofs.YtkdgcdcakioajaaGreatDoor
