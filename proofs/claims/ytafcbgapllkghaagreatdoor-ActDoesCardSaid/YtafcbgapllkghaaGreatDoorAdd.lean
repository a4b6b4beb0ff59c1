/- The contract of act's do. -/
import Derived.Test.YtafcbgapllkghaaGreatDoorAdw
import Derived.Test.YtafcbgapllkghaaGreatDoorEof
namespace Go.Proofs.YtafcbgapllkghaaGreatDoor
open Go.ChangeShapes Go.WideShapes Go.ChangeAt Go.RowKit
set_option linter.unusedVariables false

theorem eql_nn (w : World) : (binOp .eql 48 .nilIface .nilIface).run Tryz.prog w = .ok (.bool true) w := by kernel_rfl
theorem eql_code_no (p : Value) (w : World) : (binOp .eql 48 (.iface 78 p) .nilIface).run Tryz.prog w = .ok (.bool false) w := by kernel_rfl
theorem eql_spot_no (p : Value) (w : World) : (binOp .eql 48 (.iface 76 p) .nilIface).run Tryz.prog w = .ok (.bool false) w := by kernel_rfl
/-- what Of tells, with no word on which error -/
def SaidOf (v : Vl) (w : World) (e : Ending) (w' : World) : Prop :=
  Below w.heap.size w w' ∧ match v with
    | .ok k n => e = .returned (.tuple #[.agg #[.int .i64 k, .int .i64 n], .nilIface])
    | .bad _ => ∃ t p, e = .returned (.tuple #[.agg #[.int .i64 0, .int .i64 0], .iface t p]) ∧ ∀ W, (binOp .eql 48 (.iface t p) .nilIface).run Tryz.prog W = .ok (.bool false) W
theorem said_of {a : Ans} {env : List Int} {w w' : World} {e : Ending} (h : OPost a env w e w') : SaidOf (valOfA a env) w e w' := by
  cases a with
  | toks o =>
    unfold OPost VPost at h
    obtain ⟨hb, h⟩ := h
    unfold SaidOf valOfA
    simp only
    generalize ans ⟨false, env, 0⟩ o = v at *
    cases v with
    | ok k n => exact ⟨hb, h⟩
    | bad c => exact ⟨hb, _, _, h, fun W => eql_code_no _ W⟩
  | form k =>
    obtain ⟨hb, g, he, _⟩ := h
    exact ⟨hb, _, _, he, fun W => eql_spot_no _ W⟩
  | large => exact ⟨h.1, _, _, h.2, fun W => eql_code_no _ W⟩
set_option maxHeartbeats 4000000 in
set_option maxRecDepth 100000 in
theorem do_other (B g : Nat) (ve vo vi : Value) (X : Ds) (a : Ac) (w : World) (hD : DsAt B g w ve vo vi X) (h1 : ¬ a.kind = 1) (h2 : ¬ a.kind = 2) (h3 : ¬ a.kind = 3) (h4 : ¬ a.kind = 4) (h5 : ¬ a.kind = 5) :
    Calls Tryz.prog 12 #[.pointer (some ⟨g, 0, none⟩), acVal a] w (DidPost B g true X w) := by
  have HB0 := Lib.hid ((Below.refl B w).alloc hD.lt (acBox a))
  have HD1 := Lib.hid (hD.below (below_box w (acBox a)))
  have e1 : (a.kind == 1) = false := by simpa using h1
  have e2 : (a.kind == 2) = false := by simpa using h2
  have e3 : (a.kind == 3) = false := by simpa using h3
  have e4 : (a.kind == 4) = false := by simpa using h4
  have e5 : (a.kind == 5) = false := by simpa using h5
  clear hD h1 h2 h3 h4 h5
  go_enter Tryz.func12, Tryz.ntmps12
  go_wp2_with fail
  go_ret
  exact .of rfl rfl HB0.out HD1.out
set_option maxHeartbeats 4000000 in
set_option maxRecDepth 100000 in
theorem do_raise (B g : Nat) (ve vo vi : Value) (X : Ds) (an am : Int) (ex : ByteArray) (w : World) (hD : DsAt B g w ve vo vi X) (hil : X.ins.length ≤ 1000) :
    Calls Tryz.prog 12 #[.pointer (some ⟨g, 0, none⟩), acVal ⟨2, an, am, ex⟩] w (DidPost B g true ⟨X.env, X.out, X.ins ++ [an]⟩ w) := by
  obtain ⟨i0, hi, hz0, hz1, hz2⟩ := info_parts Tryz.info3
  have HI := Lib.hid hi
  have HZ0 := Lib.hid hz0
  have HZ1 := Lib.hid hz1
  have HZ2 := Lib.hid hz2
  have HD1 := hD.below (below_box w (acBox ⟨2, an, am, ex⟩))
  have HBA1 := Blk.new w 35 #[.int .i64 2, .int .i64 an, .int .i64 am, .string ex]
  have HB0 := (Below.refl B w).alloc hD.lt (acBox ⟨2, an, am, ex⟩)
  obtain ⟨⟨c0, c1, c2⟩, f0, f1, f2⟩ := HD1.blk.facts3
  obtain ⟨⟨q0, q1, q2, q3⟩, _⟩ := HBA1.four
  have HD2 := Lib.hid ((HD1.below (below_box _ (.cells #[.int .i64 an] 3))).drew)
  have HBA2 := Lib.hid ((HBA1.alloc (.cells #[.int .i64 an] 3)).drew)
  have HB2 := Lib.hid ((HB0.alloc HD1.lt (.cells #[.int .i64 an] 3)).drew)
  have HO2 := Lib.hid HD2.out.ins
  have HS2 := Lib.hid HD2.out.lt
  have HC2 := Lib.hid (And.intro HD2.out.blk.facts3.1.2.2 HBA2.out.four.1)
  have HN2 := Lib.hid (new_in (w.alloc (acBox ⟨2, an, am, ex⟩)) an (w.heap.size + 1) (by simp))
  clear hi hz0 hz1 hz2 hD HD1 HBA1 HB0
  go_enter Tryz.func12, Tryz.ntmps12
  go_wp2_with fail
  refine anyD_start (fun W => W.cell? ⟨g, 2, none⟩ = some vi ∧ W.cell? ⟨w.heap.size, 1, none⟩ = some (.int .i64 an)) (fun i => [11].contains i) (by kernel_rfl) ?_
  refine anyD_take (i := 0) (v := .pointer (some ⟨g, 0, none⟩)) rfl (by kernel_rfl) (by kernel_rfl) (by kernel_rfl) (fun _ _ _ h => h) (Or.inl ⟨by kernel_rfl, fun w => by go_simp⟩) ?_
  try simp only [Act.put, List.setIfInBounds_toArray, List.set_cons_zero, List.set_cons_succ, List.getElem_toArray, List.getElem_cons_zero]
  refine anyD_take (i := 1) (v := .pointer (some ⟨g, 0, none⟩)) rfl (by kernel_rfl) (by kernel_rfl) (by kernel_rfl) (fun _ _ _ h => h) (Or.inl ⟨by kernel_rfl, fun w => by go_simp⟩) ?_
  try simp only [Act.put, List.setIfInBounds_toArray, List.set_cons_zero, List.set_cons_succ, List.getElem_toArray, List.getElem_cons_zero, List.getElem_cons_succ]
  refine anyD_take (i := 2) (v := .pointer (some ⟨g, 0, none⟩)) rfl (by kernel_rfl) (by kernel_rfl) (by kernel_rfl) (fun _ _ _ h => h) (Or.inl ⟨by kernel_rfl, fun w => by go_simp⟩) ?_
  try simp only [Act.put, List.setIfInBounds_toArray, List.set_cons_zero, List.set_cons_succ, List.getElem_toArray, List.getElem_cons_zero, List.getElem_cons_succ]
  refine anyD_take (i := 3) (v := .pointer (some ⟨g, 2, none⟩)) rfl (by kernel_rfl) (by kernel_rfl) (by kernel_rfl) (fun _ _ _ h => h) (Or.inl ⟨by kernel_rfl, fun w => by go_simp⟩) ?_
  try simp only [Act.put, List.setIfInBounds_toArray, List.set_cons_zero, List.set_cons_succ, List.getElem_toArray, List.getElem_cons_zero, List.getElem_cons_succ]
  refine anyD_load (i := 4) (v := vi) rfl (by kernel_rfl) (by kernel_rfl) (by kernel_rfl) (by kernel_rfl) (fun _ _ _ h => h) (Or.inl ⟨by kernel_rfl, fun w hS => by obtain ⟨s0, s1⟩ := hS; go_simp⟩) (⟨c2, q1⟩) ?_
  try simp only [Act.put, List.setIfInBounds_toArray, List.set_cons_zero, List.set_cons_succ, List.getElem_toArray, List.getElem_cons_zero, List.getElem_cons_succ]
  refine anyD_take (i := 5) (v := .pointer (some ⟨w.heap.size, 1, none⟩)) rfl (by kernel_rfl) (by kernel_rfl) (by kernel_rfl) (fun _ _ _ h => h) (Or.inl ⟨by kernel_rfl, fun w => by go_simp⟩) ?_
  try simp only [Act.put, List.setIfInBounds_toArray, List.set_cons_zero, List.set_cons_succ, List.getElem_toArray, List.getElem_cons_zero, List.getElem_cons_succ]
  refine anyD_load (i := 6) (v := .int .i64 an) rfl (by kernel_rfl) (by kernel_rfl) (by kernel_rfl) (by kernel_rfl) (fun _ _ _ h => h) (Or.inl ⟨by kernel_rfl, fun w hS => by obtain ⟨s0, s1⟩ := hS; go_simp⟩) (⟨c2, q1⟩) ?_
  try simp only [Act.put, List.setIfInBounds_toArray, List.set_cons_zero, List.set_cons_succ, List.getElem_toArray, List.getElem_cons_zero, List.getElem_cons_succ]
  refine anyD_one (i := 7) rfl rfl (by kernel_rfl) (fun K HK => ?_)
  go_simp
  refine HK.out _ _ (fun _ hS => ?_) ?_
  · exact ⟨HC2.out.1, HC2.out.2.2.1⟩
  clear HK K
  try simp only [Act.put, List.setIfInBounds_toArray, List.set_cons_zero, List.set_cons_succ, List.getElem_toArray, List.getElem_cons_zero, List.getElem_cons_succ]
  refine anyD_one (i := 8) rfl rfl (by kernel_rfl) (fun K HK => ?_)
  refine wp_append_at _ _ 27 rfl B 3 i0 (.int .i64 0) 1 8 Tryz.underlying27 HI.out HZ0.out HZ1.out HZ2.out rfl (by decide) _ _ _ rfl HO2.out ⟨w.heap.size + 1, 0, none⟩ 1 1 [.int .i64 an] rfl rfl HN2.out (num_one _) (by unfold maxLen; omega) (by omega) HS2.out ?_
  intro v3 w3 hown3 hgrow3 _
  obtain ⟨g3, cap3, rfl⟩ := slice_of_own hown3
  have HD3 := Lib.hid (HD2.out.addIns (x := an) hgrow3 hown3)
  have HB3 := Lib.hid ((grown_below (g := g) HB2.out HO2.out HS2.out hgrow3).setCell (p := ⟨g, 2, none⟩) HD2.out.ge (.slice (some ⟨g3, 0, none⟩) (X.ins.length + 1) cap3))
  have HBD3 := Lib.hid (blk_grown HD2.out.blk HO2.out (by decide) hgrow3)
  have HBA3 := Lib.hid (blk_grown HBA2.out HO2.out (by decide) hgrow3)
  obtain ⟨⟨d0, d1, d2⟩, e0, e1, e2⟩ := HBD3.out.facts3
  clear hown3 hgrow3
  refine HK.out _ _ (fun _ hS => ?_) ?_
  · exact ⟨d2, HBA3.out.four.1.2.1⟩
  clear HK K
  try simp only [Act.put, List.setIfInBounds_toArray, List.set_cons_zero, List.set_cons_succ, List.getElem_toArray, List.getElem_cons_zero, List.getElem_cons_succ]
  refine anyD_take (i := 9) (v := .pointer (some ⟨g, 0, none⟩)) rfl (by kernel_rfl) (by kernel_rfl) (by kernel_rfl) (fun _ _ _ h => h) (Or.inl ⟨by kernel_rfl, fun w => by go_simp⟩) ?_
  try simp only [Act.put, List.setIfInBounds_toArray, List.set_cons_zero, List.set_cons_succ, List.getElem_toArray, List.getElem_cons_zero, List.getElem_cons_succ]
  refine anyD_take (i := 10) (v := .pointer (some ⟨g, 2, none⟩)) rfl (by kernel_rfl) (by kernel_rfl) (by kernel_rfl) (fun _ _ _ h => h) (Or.inl ⟨by kernel_rfl, fun w => by go_simp⟩) ?_
  try simp only [Act.put, List.setIfInBounds_toArray, List.set_cons_zero, List.set_cons_succ, List.getElem_toArray, List.getElem_cons_zero, List.getElem_cons_succ]
  refine anyD_one (i := 11) rfl rfl (by kernel_rfl) (fun K HK => ?_)
  go_simp
  refine HK.out _ _ (fun h => absurd h (by decide)) ?_
  clear HK K
  try simp only [Act.put, List.setIfInBounds_toArray, List.set_cons_zero, List.set_cons_succ, List.getElem_toArray, List.getElem_cons_zero, List.getElem_cons_succ]
  refine anyD_done (by kernel_rfl) ?_
  go_wp2_with fail
  go_ret
  exact .of rfl rfl HB3.out HD3.out
set_option maxHeartbeats 4000000 in
set_option maxRecDepth 100000 in
theorem do_cancel (B g : Nat) (ve vo vi : Value) (X : Ds) (an am : Int) (ex : ByteArray) (w : World) (hD : DsAt B g w ve vo vi X) (hol : X.out.length ≤ 1000) :
    Calls Tryz.prog 12 #[.pointer (some ⟨g, 0, none⟩), acVal ⟨4, an, am, ex⟩] w (DidPost B g true ⟨X.env, X.out ++ [⟨4, 0, 0, an⟩], X.ins⟩ w) := by
  obtain ⟨i0, hi, hz0, hz1, hz2⟩ := info_parts Tryz.infoOut
  have HI := Lib.hid hi
  have HZ0 := Lib.hid hz0
  have HZ1 := Lib.hid hz1
  have HZ2 := Lib.hid hz2
  have HD1 := hD.below (below_box w (acBox ⟨4, an, am, ex⟩))
  have HBA1 := Blk.new w 35 #[.int .i64 4, .int .i64 an, .int .i64 am, .string ex]
  have HB0 := (Below.refl B w).alloc hD.lt (acBox ⟨4, an, am, ex⟩)
  obtain ⟨⟨c0, c1, c2⟩, f0, f1, f2⟩ := HD1.blk.facts3
  obtain ⟨⟨q0, q1, q2, q3⟩, _⟩ := HBA1.four
  have HD2 := Lib.hid ((HD1.below (below_box _ (.cells #[.int .i64 4, .int .i64 0, .int .i64 0, .int .i64 an] 41))).drew)
  have HBA2 := Lib.hid ((HBA1.alloc (.cells #[.int .i64 4, .int .i64 0, .int .i64 0, .int .i64 an] 41)).drew)
  have HB2 := Lib.hid ((HB0.alloc HD1.lt (.cells #[.int .i64 4, .int .i64 0, .int .i64 0, .int .i64 an] 41)).drew)
  have HO2 := Lib.hid HD2.out.out
  have HS2 := Lib.hid HD2.out.lt
  have HC2 := Lib.hid (And.intro HD2.out.blk.facts3.1.2.1 HBA2.out.four.1)
  have HN2 := Lib.hid (new_ou (w.alloc (acBox ⟨4, an, am, ex⟩)) ⟨4, 0, 0, an⟩ (w.heap.size + 1) (by simp))
  clear hi hz0 hz1 hz2 hD HD1 HBA1 HB0
  go_enter Tryz.func12, Tryz.ntmps12
  go_wp2_with fail
  refine anyD_start (fun W => W.cell? ⟨g, 1, none⟩ = some vo ∧ W.cell? ⟨w.heap.size, 1, none⟩ = some (.int .i64 an)) (fun i => [12].contains i) (by kernel_rfl) ?_
  refine anyD_take (i := 0) (v := .pointer (some ⟨g, 0, none⟩)) rfl (by kernel_rfl) (by kernel_rfl) (by kernel_rfl) (fun _ _ _ h => h) (Or.inl ⟨by kernel_rfl, fun w => by go_simp⟩) ?_
  try simp only [Act.put, List.setIfInBounds_toArray, List.set_cons_zero, List.set_cons_succ, List.getElem_toArray, List.getElem_cons_zero]
  refine anyD_take (i := 1) (v := .pointer (some ⟨g, 0, none⟩)) rfl (by kernel_rfl) (by kernel_rfl) (by kernel_rfl) (fun _ _ _ h => h) (Or.inl ⟨by kernel_rfl, fun w => by go_simp⟩) ?_
  try simp only [Act.put, List.setIfInBounds_toArray, List.set_cons_zero, List.set_cons_succ, List.getElem_toArray, List.getElem_cons_zero, List.getElem_cons_succ]
  refine anyD_take (i := 2) (v := .pointer (some ⟨g, 0, none⟩)) rfl (by kernel_rfl) (by kernel_rfl) (by kernel_rfl) (fun _ _ _ h => h) (Or.inl ⟨by kernel_rfl, fun w => by go_simp⟩) ?_
  try simp only [Act.put, List.setIfInBounds_toArray, List.set_cons_zero, List.set_cons_succ, List.getElem_toArray, List.getElem_cons_zero, List.getElem_cons_succ]
  refine anyD_take (i := 3) (v := .pointer (some ⟨g, 1, none⟩)) rfl (by kernel_rfl) (by kernel_rfl) (by kernel_rfl) (fun _ _ _ h => h) (Or.inl ⟨by kernel_rfl, fun w => by go_simp⟩) ?_
  try simp only [Act.put, List.setIfInBounds_toArray, List.set_cons_zero, List.set_cons_succ, List.getElem_toArray, List.getElem_cons_zero, List.getElem_cons_succ]
  refine anyD_load (i := 4) (v := vo) rfl (by kernel_rfl) (by kernel_rfl) (by kernel_rfl) (by kernel_rfl) (fun _ _ _ h => h) (Or.inl ⟨by kernel_rfl, fun w hS => by obtain ⟨s0, s1⟩ := hS; go_simp⟩) (⟨c1, q1⟩) ?_
  try simp only [Act.put, List.setIfInBounds_toArray, List.set_cons_zero, List.set_cons_succ, List.getElem_toArray, List.getElem_cons_zero, List.getElem_cons_succ]
  refine anyD_take (i := 5) (v := .pointer (some ⟨w.heap.size, 1, none⟩)) rfl (by kernel_rfl) (by kernel_rfl) (by kernel_rfl) (fun _ _ _ h => h) (Or.inl ⟨by kernel_rfl, fun w => by go_simp⟩) ?_
  try simp only [Act.put, List.setIfInBounds_toArray, List.set_cons_zero, List.set_cons_succ, List.getElem_toArray, List.getElem_cons_zero, List.getElem_cons_succ]
  refine anyD_load (i := 6) (v := .int .i64 an) rfl (by kernel_rfl) (by kernel_rfl) (by kernel_rfl) (by kernel_rfl) (fun _ _ _ h => h) (Or.inl ⟨by kernel_rfl, fun w hS => by obtain ⟨s0, s1⟩ := hS; go_simp⟩) (⟨c1, q1⟩) ?_
  try simp only [Act.put, List.setIfInBounds_toArray, List.set_cons_zero, List.set_cons_succ, List.getElem_toArray, List.getElem_cons_zero, List.getElem_cons_succ]
  refine anyD_take (i := 7) (v := .agg #[.int .i64 4, .int .i64 0, .int .i64 0, .int .i64 an]) rfl (by kernel_rfl) (by kernel_rfl) (by kernel_rfl) (fun _ _ _ h => h) (Or.inl ⟨by kernel_rfl, fun w => by go_simp⟩) ?_
  try simp only [Act.put, List.setIfInBounds_toArray, List.set_cons_zero, List.set_cons_succ, List.getElem_toArray, List.getElem_cons_zero, List.getElem_cons_succ]
  refine anyD_one (i := 8) rfl rfl (by kernel_rfl) (fun K HK => ?_)
  go_simp
  refine HK.out _ _ (fun _ hS => ?_) ?_
  · exact ⟨HC2.out.1, HC2.out.2.2.1⟩
  clear HK K
  try simp only [Act.put, List.setIfInBounds_toArray, List.set_cons_zero, List.set_cons_succ, List.getElem_toArray, List.getElem_cons_zero, List.getElem_cons_succ]
  refine anyD_one (i := 9) rfl rfl (by kernel_rfl) (fun K HK => ?_)
  refine wp_append_at _ _ 26 rfl B 41 i0 (.agg #[.int .i64 0, .int .i64 0, .int .i64 0, .int .i64 0]) 4 32 Tryz.underlying26 HI.out HZ0.out HZ1.out HZ2.out rfl (by decide) _ _ _ rfl HO2.out ⟨w.heap.size + 1, 0, none⟩ 1 1 (ouCells ⟨4, 0, 0, an⟩) rfl rfl HN2.out (ou_one _) (by unfold maxLen; omega) (by omega) HS2.out ?_
  intro v3 w3 hown3 hgrow3 _
  obtain ⟨g3, cap3, rfl⟩ := slice_of_own hown3
  have HD3 := Lib.hid (HD2.out.addOut (o := ⟨4, 0, 0, an⟩) hgrow3 hown3)
  have HB3 := Lib.hid ((grown_below (g := g) HB2.out HO2.out HS2.out hgrow3).setCell (p := ⟨g, 1, none⟩) HD2.out.ge (.slice (some ⟨g3, 0, none⟩) (X.out.length + 1) cap3))
  have HBD3 := Lib.hid (blk_grown HD2.out.blk HO2.out (by decide) hgrow3)
  have HBA3 := Lib.hid (blk_grown HBA2.out HO2.out (by decide) hgrow3)
  obtain ⟨⟨d0, d1, d2⟩, e0, e1, e2⟩ := HBD3.out.facts3
  clear hown3 hgrow3
  refine HK.out _ _ (fun _ hS => ?_) ?_
  · exact ⟨d1, HBA3.out.four.1.2.1⟩
  clear HK K
  try simp only [Act.put, List.setIfInBounds_toArray, List.set_cons_zero, List.set_cons_succ, List.getElem_toArray, List.getElem_cons_zero, List.getElem_cons_succ]
  refine anyD_take (i := 10) (v := .pointer (some ⟨g, 0, none⟩)) rfl (by kernel_rfl) (by kernel_rfl) (by kernel_rfl) (fun _ _ _ h => h) (Or.inl ⟨by kernel_rfl, fun w => by go_simp⟩) ?_
  try simp only [Act.put, List.setIfInBounds_toArray, List.set_cons_zero, List.set_cons_succ, List.getElem_toArray, List.getElem_cons_zero, List.getElem_cons_succ]
  refine anyD_take (i := 11) (v := .pointer (some ⟨g, 1, none⟩)) rfl (by kernel_rfl) (by kernel_rfl) (by kernel_rfl) (fun _ _ _ h => h) (Or.inl ⟨by kernel_rfl, fun w => by go_simp⟩) ?_
  try simp only [Act.put, List.setIfInBounds_toArray, List.set_cons_zero, List.set_cons_succ, List.getElem_toArray, List.getElem_cons_zero, List.getElem_cons_succ]
  refine anyD_one (i := 12) rfl rfl (by kernel_rfl) (fun K HK => ?_)
  go_simp
  refine HK.out _ _ (fun h => absurd h (by decide)) ?_
  clear HK K
  try simp only [Act.put, List.setIfInBounds_toArray, List.set_cons_zero, List.set_cons_succ, List.getElem_toArray, List.getElem_cons_zero, List.getElem_cons_succ]
  refine anyD_done (by kernel_rfl) ?_
  go_wp2_with fail
  go_ret
  exact .of rfl rfl HB3.out HD3.out
end Go.Proofs.YtafcbgapllkghaaGreatDoor
