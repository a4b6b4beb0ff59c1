/- The contract of act's doWith. -/
import Derived.Test.YtafcbgapllkghaaGreatDoorAas
namespace Go.Proofs.YtafcbgapllkghaaGreatDoor
open Go.ChangeShapes Go.WideShapes Go.ChangeAt Go.RowKit
set_option linter.unusedVariables false

theorem ou_one (o : Ou) : ∀ u ∈ ouCells o, u.oneCell' = true := by
  intro u hu
  simp only [ouCells, List.mem_cons, List.mem_nil_iff, or_false] at hu
  rcases hu with rfl | rfl | rfl | rfl <;> rfl
theorem num_one (x : Int) : ∀ u ∈ [Value.int .i64 x], u.oneCell' = true := by
  intro u hu
  rw [List.mem_singleton.1 hu]
  rfl
theorem new_ou (W : World) (o : Ou) (p : Nat) (hp : W.heap.size = p) : ∀ j u, (ouCells o)[j]? = some u → (W.alloc (.cells #[.int .i64 o.kind, .int .i64 o.ev, .int .i64 o.dl, .int .i64 o.to] 41)).cell? ((⟨p, 0, none⟩ : Addr).add j) = some u := by
  subst hp
  exact World.news_of_block (cs := #[.int .i64 o.kind, .int .i64 o.ev, .int .i64 o.dl, .int .i64 o.to]) (t := 41) (fr := (0, 0)) (heap_alloc_new W _)
theorem new_in (W : World) (x : Int) (p : Nat) (hp : W.heap.size = p) : ∀ j u, [Value.int .i64 x][j]? = some u → (W.alloc (.cells #[.int .i64 x] 3)).cell? ((⟨p, 0, none⟩ : Addr).add j) = some u := by
  subst hp
  exact World.news_of_block (cs := #[.int .i64 x]) (t := 3) (fr := (0, 0)) (heap_alloc_new W _)
/-- a block of another type stays where a row grows -/
theorem blk_grown {w w' : World} {B g : Nat} {e t : TypeId} {s n : Nat} {v : Value} {xs : List Value} {cs : Array Value} (h : Blk w g t cs) (ho : w.ownsRow B e s v n xs) (het : e ≠ t) (hg : w.grownBy w' v.ownBlock) : Blk w' g t cs :=
  h.grown hg (Ne.symm (own_else ho h het))
theorem grown_below {B g : Nat} {w w1 w2 : World} {v : Value} {e : TypeId} {s n : Nat} {xs : List Value} (h : Below B w w1) (ho : w1.ownsRow B e s v n xs) (hB : B ≤ w1.heap.size) (hg : w1.grownBy w2 v.ownBlock) : Below B w w2 :=
  h.grown hg hB (fun k hk => (ho.lt k hk).1)
abbrev acBox (a : Ac) : Obj := .cells #[.int .i64 a.kind, .int .i64 a.n, .int .i64 a.m, .string a.expr] 35
abbrev acVal (a : Ac) : Value := .agg #[.int .i64 a.kind, .int .i64 a.n, .int .i64 a.m, .string a.expr]
set_option maxHeartbeats 4000000 in
set_option maxRecDepth 100000 in
theorem doWith_assign (B g : Nat) (ve vo vi : Value) (X : Ds) (a : Ac) (n : Int) (w : World) (hD : DsAt B g w ve vo vi X) (hel : X.env.length ≤ 1000) (hk : a.kind = 1) :
    Calls Tryz.prog 15 #[.pointer (some ⟨g, 0, none⟩), acVal a, .int .i64 n] w (DidPost B g (doK a n X).isSome ((doK a n X).getD X) w) := by
  have HB0 := Lib.hid ((Below.refl B w).alloc hD.lt (acBox a))
  have HA := Lib.hid (assign_any B g ve vo vi X a n _ (hD.below (below_box w (acBox a))) hel hk)
  generalize (doK a n X).isSome = r at *
  generalize (doK a n X).getD X = Y at *
  obtain ⟨kd, an, am, ex⟩ := a
  simp only at hk
  subst hk
  clear hD
  go_enter Tryz.func15, Tryz.ntmps15
  go_wp2_with fail
  refine HA.out.mono ?_
  rintro e w1 ⟨rfl, hb1, ve1, vo1, vi1, hd1⟩
  have HB1 := Lib.hid (HB0.out.trans hb1)
  have HD1 := Lib.hid hd1
  clear hb1 hd1
  go_wp2_with fail
  go_ret
  exact .of rfl rfl HB1.out HD1.out
set_option maxHeartbeats 4000000 in
set_option maxRecDepth 100000 in
theorem doWith_send (B g : Nat) (ve vo vi : Value) (X : Ds) (an am : Int) (ex : ByteArray) (n : Int) (w : World) (hD : DsAt B g w ve vo vi X) (hol : X.out.length ≤ 1000) :
    Calls Tryz.prog 15 #[.pointer (some ⟨g, 0, none⟩), acVal ⟨3, an, am, ex⟩, .int .i64 n] w (DidPost B g true ⟨X.env, X.out ++ [⟨3, an, am, n⟩], X.ins⟩ w) := by
  obtain ⟨i0, hi, hz0, hz1, hz2⟩ := info_parts Tryz.infoOut
  have HI := Lib.hid hi
  have HZ0 := Lib.hid hz0
  have HZ1 := Lib.hid hz1
  have HZ2 := Lib.hid hz2
  have HD1 := hD.below (below_box w (acBox ⟨3, an, am, ex⟩))
  have HBA1 := Blk.new w 35 #[.int .i64 3, .int .i64 an, .int .i64 am, .string ex]
  have HB0 := (Below.refl B w).alloc hD.lt (acBox ⟨3, an, am, ex⟩)
  obtain ⟨⟨c0, c1, c2⟩, f0, f1, f2⟩ := HD1.blk.facts3
  obtain ⟨⟨q0, q1, q2, q3⟩, _⟩ := HBA1.four
  have HD2 := Lib.hid ((HD1.below (below_box _ (.cells #[.int .i64 3, .int .i64 an, .int .i64 am, .int .i64 n] 41))).drew)
  have HBA2 := Lib.hid ((HBA1.alloc (.cells #[.int .i64 3, .int .i64 an, .int .i64 am, .int .i64 n] 41)).drew)
  have HB2 := Lib.hid ((HB0.alloc HD1.lt (.cells #[.int .i64 3, .int .i64 an, .int .i64 am, .int .i64 n] 41)).drew)
  have HO2 := Lib.hid HD2.out.out
  have HS2 := Lib.hid HD2.out.lt
  have HC2 := Lib.hid (And.intro HD2.out.blk.facts3.1.2.1 HBA2.out.four.1)
  have HN2 := Lib.hid (new_ou (w.alloc (acBox ⟨3, an, am, ex⟩)) ⟨3, an, am, n⟩ (w.heap.size + 1) (by simp))
  clear hi hz0 hz1 hz2 hD HD1 HBA1 HB0
  go_enter Tryz.func15, Tryz.ntmps15
  go_wp2_with fail
  refine anyD_start (fun W => W.cell? ⟨g, 1, none⟩ = some vo ∧ W.cell? ⟨w.heap.size, 1, none⟩ = some (.int .i64 an) ∧ W.cell? ⟨w.heap.size, 2, none⟩ = some (.int .i64 am)) (fun i => [15].contains i) (by kernel_rfl) ?_
  refine anyD_take (i := 0) (v := .pointer (some ⟨g, 0, none⟩)) rfl (by kernel_rfl) (by kernel_rfl) (by kernel_rfl) (fun _ _ _ h => h) (Or.inl ⟨by kernel_rfl, fun w => by go_simp⟩) ?_
  try simp only [Act.put, List.setIfInBounds_toArray, List.set_cons_zero, List.set_cons_succ, List.getElem_toArray, List.getElem_cons_zero]
  refine anyD_take (i := 1) (v := .pointer (some ⟨g, 0, none⟩)) rfl (by kernel_rfl) (by kernel_rfl) (by kernel_rfl) (fun _ _ _ h => h) (Or.inl ⟨by kernel_rfl, fun w => by go_simp⟩) ?_
  try simp only [Act.put, List.setIfInBounds_toArray, List.set_cons_zero, List.set_cons_succ, List.getElem_toArray, List.getElem_cons_zero, List.getElem_cons_succ]
  refine anyD_take (i := 2) (v := .pointer (some ⟨g, 0, none⟩)) rfl (by kernel_rfl) (by kernel_rfl) (by kernel_rfl) (fun _ _ _ h => h) (Or.inl ⟨by kernel_rfl, fun w => by go_simp⟩) ?_
  try simp only [Act.put, List.setIfInBounds_toArray, List.set_cons_zero, List.set_cons_succ, List.getElem_toArray, List.getElem_cons_zero, List.getElem_cons_succ]
  refine anyD_take (i := 3) (v := .pointer (some ⟨g, 1, none⟩)) rfl (by kernel_rfl) (by kernel_rfl) (by kernel_rfl) (fun _ _ _ h => h) (Or.inl ⟨by kernel_rfl, fun w => by go_simp⟩) ?_
  try simp only [Act.put, List.setIfInBounds_toArray, List.set_cons_zero, List.set_cons_succ, List.getElem_toArray, List.getElem_cons_zero, List.getElem_cons_succ]
  refine anyD_load (i := 4) (v := vo) rfl (by kernel_rfl) (by kernel_rfl) (by kernel_rfl) (by kernel_rfl) (fun _ _ _ h => h) (Or.inl ⟨by kernel_rfl, fun w hS => by obtain ⟨s0, s1, s2⟩ := hS; go_simp⟩) (⟨c1, q1, q2⟩) ?_
  try simp only [Act.put, List.setIfInBounds_toArray, List.set_cons_zero, List.set_cons_succ, List.getElem_toArray, List.getElem_cons_zero, List.getElem_cons_succ]
  refine anyD_take (i := 5) (v := .pointer (some ⟨w.heap.size, 1, none⟩)) rfl (by kernel_rfl) (by kernel_rfl) (by kernel_rfl) (fun _ _ _ h => h) (Or.inl ⟨by kernel_rfl, fun w => by go_simp⟩) ?_
  try simp only [Act.put, List.setIfInBounds_toArray, List.set_cons_zero, List.set_cons_succ, List.getElem_toArray, List.getElem_cons_zero, List.getElem_cons_succ]
  refine anyD_load (i := 6) (v := .int .i64 an) rfl (by kernel_rfl) (by kernel_rfl) (by kernel_rfl) (by kernel_rfl) (fun _ _ _ h => h) (Or.inl ⟨by kernel_rfl, fun w hS => by obtain ⟨s0, s1, s2⟩ := hS; go_simp⟩) (⟨c1, q1, q2⟩) ?_
  try simp only [Act.put, List.setIfInBounds_toArray, List.set_cons_zero, List.set_cons_succ, List.getElem_toArray, List.getElem_cons_zero, List.getElem_cons_succ]
  refine anyD_take (i := 7) (v := .pointer (some ⟨w.heap.size, 2, none⟩)) rfl (by kernel_rfl) (by kernel_rfl) (by kernel_rfl) (fun _ _ _ h => h) (Or.inl ⟨by kernel_rfl, fun w => by go_simp⟩) ?_
  try simp only [Act.put, List.setIfInBounds_toArray, List.set_cons_zero, List.set_cons_succ, List.getElem_toArray, List.getElem_cons_zero, List.getElem_cons_succ]
  refine anyD_load (i := 8) (v := .int .i64 am) rfl (by kernel_rfl) (by kernel_rfl) (by kernel_rfl) (by kernel_rfl) (fun _ _ _ h => h) (Or.inl ⟨by kernel_rfl, fun w hS => by obtain ⟨s0, s1, s2⟩ := hS; go_simp⟩) (⟨c1, q1, q2⟩) ?_
  try simp only [Act.put, List.setIfInBounds_toArray, List.set_cons_zero, List.set_cons_succ, List.getElem_toArray, List.getElem_cons_zero, List.getElem_cons_succ]
  refine anyD_take (i := 9) (v := .int .i64 n) rfl (by kernel_rfl) (by kernel_rfl) (by kernel_rfl) (fun _ _ _ h => h) (Or.inl ⟨by kernel_rfl, fun w => by go_simp⟩) ?_
  try simp only [Act.put, List.setIfInBounds_toArray, List.set_cons_zero, List.set_cons_succ, List.getElem_toArray, List.getElem_cons_zero, List.getElem_cons_succ]
  refine anyD_take (i := 10) (v := .agg #[.int .i64 3, .int .i64 an, .int .i64 am, .int .i64 n]) rfl (by kernel_rfl) (by kernel_rfl) (by kernel_rfl) (fun _ _ _ h => h) (Or.inl ⟨by kernel_rfl, fun w => by go_simp⟩) ?_
  try simp only [Act.put, List.setIfInBounds_toArray, List.set_cons_zero, List.set_cons_succ, List.getElem_toArray, List.getElem_cons_zero, List.getElem_cons_succ]
  refine anyD_one (i := 11) rfl rfl (by kernel_rfl) (fun K HK => ?_)
  go_simp
  refine HK.out _ _ (fun _ hS => ?_) ?_
  · exact ⟨HC2.out.1, HC2.out.2.2.1, HC2.out.2.2.2.1⟩
  clear HK K
  try simp only [Act.put, List.setIfInBounds_toArray, List.set_cons_zero, List.set_cons_succ, List.getElem_toArray, List.getElem_cons_zero, List.getElem_cons_succ]
  refine anyD_one (i := 12) rfl rfl (by kernel_rfl) (fun K HK => ?_)
  refine wp_append_at _ _ 26 rfl B 41 i0 (.agg #[.int .i64 0, .int .i64 0, .int .i64 0, .int .i64 0]) 4 32 Tryz.underlying26 HI.out HZ0.out HZ1.out HZ2.out rfl (by decide) _ _ _ rfl HO2.out ⟨w.heap.size + 1, 0, none⟩ 1 1 (ouCells ⟨3, an, am, n⟩) rfl rfl HN2.out (ou_one _) (by unfold maxLen; omega) (by omega) HS2.out ?_
  intro v3 w3 hown3 hgrow3 _
  obtain ⟨g3, cap3, rfl⟩ := slice_of_own hown3
  have HD3 := Lib.hid (HD2.out.addOut (o := ⟨3, an, am, n⟩) hgrow3 hown3)
  have HB3 := Lib.hid ((grown_below (g := g) HB2.out HO2.out HS2.out hgrow3).setCell (p := ⟨g, 1, none⟩) HD2.out.ge (.slice (some ⟨g3, 0, none⟩) (X.out.length + 1) cap3))
  have HBD3 := Lib.hid (blk_grown HD2.out.blk HO2.out (by decide) hgrow3)
  have HBA3 := Lib.hid (blk_grown HBA2.out HO2.out (by decide) hgrow3)
  obtain ⟨⟨d0, d1, d2⟩, e0, e1, e2⟩ := HBD3.out.facts3
  clear hown3 hgrow3
  refine HK.out _ _ (fun _ hS => ?_) ?_
  · exact ⟨d1, HBA3.out.four.1.2.1, HBA3.out.four.1.2.2.1⟩
  clear HK K
  try simp only [Act.put, List.setIfInBounds_toArray, List.set_cons_zero, List.set_cons_succ, List.getElem_toArray, List.getElem_cons_zero, List.getElem_cons_succ]
  refine anyD_take (i := 13) (v := .pointer (some ⟨g, 0, none⟩)) rfl (by kernel_rfl) (by kernel_rfl) (by kernel_rfl) (fun _ _ _ h => h) (Or.inl ⟨by kernel_rfl, fun w => by go_simp⟩) ?_
  try simp only [Act.put, List.setIfInBounds_toArray, List.set_cons_zero, List.set_cons_succ, List.getElem_toArray, List.getElem_cons_zero, List.getElem_cons_succ]
  refine anyD_take (i := 14) (v := .pointer (some ⟨g, 1, none⟩)) rfl (by kernel_rfl) (by kernel_rfl) (by kernel_rfl) (fun _ _ _ h => h) (Or.inl ⟨by kernel_rfl, fun w => by go_simp⟩) ?_
  try simp only [Act.put, List.setIfInBounds_toArray, List.set_cons_zero, List.set_cons_succ, List.getElem_toArray, List.getElem_cons_zero, List.getElem_cons_succ]
  refine anyD_one (i := 15) rfl rfl (by kernel_rfl) (fun K HK => ?_)
  go_simp
  refine HK.out _ _ (fun h => absurd h (by decide)) ?_
  clear HK K
  try simp only [Act.put, List.setIfInBounds_toArray, List.set_cons_zero, List.set_cons_succ, List.getElem_toArray, List.getElem_cons_zero, List.getElem_cons_succ]
  refine anyD_done (by kernel_rfl) ?_
  go_wp2_with fail
  go_ret
  exact .of rfl rfl HB3.out HD3.out
set_option maxHeartbeats 4000000 in
set_option maxRecDepth 100000 in
theorem doWith_log (B g : Nat) (ve vo vi : Value) (X : Ds) (an am : Int) (ex : ByteArray) (n : Int) (w : World) (hD : DsAt B g w ve vo vi X) (hol : X.out.length ≤ 1000) :
    Calls Tryz.prog 15 #[.pointer (some ⟨g, 0, none⟩), acVal ⟨5, an, am, ex⟩, .int .i64 n] w (DidPost B g true ⟨X.env, X.out ++ [⟨5, 0, 0, n⟩], X.ins⟩ w) := by
  obtain ⟨i0, hi, hz0, hz1, hz2⟩ := info_parts Tryz.infoOut
  have HI := Lib.hid hi
  have HZ0 := Lib.hid hz0
  have HZ1 := Lib.hid hz1
  have HZ2 := Lib.hid hz2
  have HD1 := hD.below (below_box w (acBox ⟨5, an, am, ex⟩))
  have HB0 := (Below.refl B w).alloc hD.lt (acBox ⟨5, an, am, ex⟩)
  obtain ⟨⟨c0, c1, c2⟩, f0, f1, f2⟩ := HD1.blk.facts3
  have HD2 := Lib.hid (HD1.below (below_box _ (.cells #[.int .i64 5, .int .i64 0, .int .i64 0, .int .i64 n] 41)))
  have HB2 := Lib.hid (HB0.alloc HD1.lt (.cells #[.int .i64 5, .int .i64 0, .int .i64 0, .int .i64 n] 41))
  have HO2 := Lib.hid HD2.out.out
  have HS2 := Lib.hid HD2.out.lt
  have HN2 := Lib.hid (new_ou (w.alloc (acBox ⟨5, an, am, ex⟩)) ⟨5, 0, 0, n⟩ (w.heap.size + 1) (by simp))
  clear hi hz0 hz1 hz2 hD HD1 HB0
  go_enter Tryz.func15, Tryz.ntmps15
  go_wp2_with (at_builtin; refine wpList_append_own_at _ rfl _ _ 26 rfl B 41 i0 (.agg #[.int .i64 0, .int .i64 0, .int .i64 0, .int .i64 0]) 4 32 Tryz.underlying26 HI.out HZ0.out HZ1.out HZ2.out rfl (by decide) _ _ _ rfl HO2.out ⟨w.heap.size + 1, 0, none⟩ 1 1 (ouCells ⟨5, 0, 0, n⟩) rfl rfl HN2.out (ou_one _) ?c3 ?c4 HS2.out ?_)
  case c3 => unfold maxLen; omega
  case c4 => omega
  intro v3 w3 hown3 hgrow3 _ _
  obtain ⟨g3, cap3, rfl⟩ := slice_of_own hown3
  have HD3 := Lib.hid (HD2.out.addOut (o := ⟨5, 0, 0, n⟩) hgrow3 hown3)
  have HB3 := Lib.hid ((grown_below (g := g) HB2.out HO2.out HS2.out hgrow3).setCell (p := ⟨g, 1, none⟩) HD2.out.ge (.slice (some ⟨g3, 0, none⟩) (X.out.length + 1) cap3))
  have HBD3 := Lib.hid (blk_grown HD2.out.blk HO2.out (by decide) hgrow3)
  obtain ⟨⟨d0, d1, d2⟩, e0, e1, e2⟩ := HBD3.out.facts3
  clear hown3 hgrow3
  go_wp2_with fail
  go_ret
  exact .of rfl rfl HB3.out HD3.out
theorem doWith_any (B g : Nat) (ve vo vi : Value) (X : Ds) (a : Ac) (n : Int) (w : World) (hD : DsAt B g w ve vo vi X) (hel : X.env.length ≤ 1000) (hol : X.out.length ≤ 1000) (hk : a.kind = 1 ∨ a.kind = 3 ∨ a.kind = 5) :
    Calls Tryz.prog 15 #[.pointer (some ⟨g, 0, none⟩), acVal a, .int .i64 n] w (DidPost B g (doK a n X).isSome ((doK a n X).getD X) w) := by
  rcases hk with hk | hk | hk
  · exact doWith_assign B g ve vo vi X a n w hD hel hk
  · obtain ⟨kd, an, am, ex⟩ := a
    simp only at hk
    subst hk
    exact doWith_send B g ve vo vi X an am ex n w hD hol
  · obtain ⟨kd, an, am, ex⟩ := a
    simp only at hk
    subst hk
    exact doWith_log B g ve vo vi X an am ex n w hD hol
end Go.Proofs.YtafcbgapllkghaaGreatDoor
