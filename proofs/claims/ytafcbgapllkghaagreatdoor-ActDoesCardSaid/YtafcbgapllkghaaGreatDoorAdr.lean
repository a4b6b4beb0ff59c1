/- What actions have come to, as it lies in memory; the contracts of slices.Clone and of the document's Nums and Outs. -/
import Derived.Test.YtafcbgapllkghaaGreatDoorApure
import Derived.Test.YtafcbgapllkghaaGreatDoorTmem
import Derived.Test.YtafcbgapllkghaaGreatDoorPopd
import Derived.Test.YtafcbgapllkghaaGreatDoorDrw
import Derived.Laws.StructEq
namespace Go.Proofs.YtafcbgapllkghaaGreatDoor
open Go.ChangeShapes Go.WideShapes Go.ChangeAt Go.RowKit
set_option linter.unusedVariables false

theorem Blk.four {w : World} {g : Nat} {t : TypeId} {x y z u : Value} (h : Blk w g t #[x, y, z, u]) :
    (w.cell? ⟨g, 0, none⟩ = some x ∧ w.cell? ⟨g, 1, none⟩ = some y ∧ w.cell? ⟨g, 2, none⟩ = some z ∧ w.cell? ⟨g, 3, none⟩ = some u) ∧ (w.frozen? ⟨g, 0, none⟩ = false ∧ w.frozen? ⟨g, 1, none⟩ = false ∧ w.frozen? ⟨g, 2, none⟩ = false ∧ w.frozen? ⟨g, 3, none⟩ = false) :=
  ⟨⟨h.cell 0, h.cell 1, h.cell 2, h.cell 3⟩, h.frozen 0, h.frozen 1, h.frozen 2, h.frozen 3⟩
def ouCells (o : Ou) : List Value := [.int .i64 o.kind, .int .i64 o.ev, .int .i64 o.dl, .int .i64 o.to]
theorem ouCells_len (o : Ou) : (ouCells o).length = 4 := rfl
theorem Tryz.infoOut : (Tryz.prog.info? 41).map (fun i => (i.zero, i.size, i.bytes)) = some (some (.agg #[.int .i64 0, .int .i64 0, .int .i64 0, .int .i64 0]), 4, 32) := by kernel_rfl
def OuAt (w : World) (b o : Nat) (x : Ou) : Prop :=
  w.cell? ⟨b, o, none⟩ = some (.int .i64 x.kind) ∧ w.cell? ⟨b, o + 1, none⟩ = some (.int .i64 x.ev) ∧ w.cell? ⟨b, o + 2, none⟩ = some (.int .i64 x.dl) ∧ w.cell? ⟨b, o + 3, none⟩ = some (.int .i64 x.to)
theorem OuAt.keeps : Keeps OuAt := fun w w' b o x hb hlt h =>
  ⟨(hb.cell (p := ⟨b, _, none⟩) hlt).trans h.1, (hb.cell (p := ⟨b, _, none⟩) hlt).trans h.2.1, (hb.cell (p := ⟨b, _, none⟩) hlt).trans h.2.2.1, (hb.cell (p := ⟨b, _, none⟩) hlt).trans h.2.2.2⟩
def OutsAt (w : World) (v : Value) (l : List Ou) : Prop := RowsAt 4 OuAt w v l
theorem OutsAt.below {w w' : World} {v : Value} {l : List Ou} (h : OutsAt w v l) (hb : Below w.heap.size w w') : OutsAt w' v l := RowsAt.below OuAt.keeps h hb
def OwnOuts (B : Nat) (w : World) (v : Value) (L : List Ou) : Prop := w.ownsRow B 41 4 v L.length (L.flatMap ouCells)
def OwnIns (B : Nat) (w : World) (v : Value) (L : List Int) : Prop := w.ownsRow B 3 1 v L.length (intVals L)
def OwnEnv (B : Nat) (w : World) (v : Value) (L : List Int) : Prop := RowAt B w 2 1 intCells v L
theorem OwnOuts.outs {B : Nat} {w : World} {v : Value} {L : List Ou} (h : OwnOuts B w v L) : OutsAt w v L := by
  have := RowAt.rows (val := fun x : Ou => x) (P := OuAt) (RowAt.of_own ouCells_len h) (fun r _ b o hc => ⟨hc 0 _ rfl, hc 1 _ rfl, hc 2 _ rfl, hc 3 _ rfl⟩)
  rwa [List.map_id'] at this
theorem nums_of_rows {w : World} {v : Value} {L : List Int} (h : RowsAt 1 IntAt w v L) : NumsAt w v L := by
  obtain ⟨A, cap, hv, hc, hi⟩ := h
  refine ⟨A, cap, hv, hc, fun i x hx => ?_⟩
  obtain ⟨b, o, hA, hb, hcell⟩ := hi i x hx
  exact ⟨b, o, hA, hb, by unfold IntAt at hcell; rwa [Nat.mul_one] at hcell⟩
theorem rows_of_nums {w : World} {v : Value} {L : List Int} (h : NumsAt w v L) : RowsAt 1 IntAt w v L := by
  obtain ⟨A, cap, hv, hc, hi⟩ := h
  refine ⟨A, cap, hv, hc, fun i x hx => ?_⟩
  obtain ⟨b, o, hA, hb, hcell⟩ := hi i x hx
  exact ⟨b, o, hA, hb, by unfold IntAt; rwa [Nat.mul_one]⟩
theorem OwnEnv.nums {B : Nat} {w : World} {v : Value} {L : List Int} (h : OwnEnv B w v L) : NumsAt w v L := by
  have := RowAt.rows (val := fun x : Int => x) (P := IntAt) h (fun r _ b o hc => hc 0 _ rfl)
  rw [List.map_id'] at this
  exact nums_of_rows this
theorem OwnEnv.below {B : Nat} {w w' : World} {v : Value} {L : List Int} (h : OwnEnv B w v L) (hb : Below w.heap.size w w') : OwnEnv B w' v L := RowAt.below h hb
theorem OwnOuts.below {B : Nat} {w w' : World} {v : Value} {L : List Ou} (h : OwnOuts B w v L) (hb : Below w.heap.size w w') : OwnOuts B w' v L := own_below h hb
theorem OwnIns.below {B : Nat} {w w' : World} {v : Value} {L : List Int} (h : OwnIns B w v L) (hb : Below w.heap.size w w') : OwnIns B w' v L := own_below h hb
theorem OwnEnv.slice {B : Nat} {w : World} {v : Value} {L : List Int} (h : OwnEnv B w v L) : ∃ A cap, v = .slice A L.length cap := by
  rcases h with ⟨rfl, rfl⟩ | ⟨g, cap, _, rfl, _⟩
  · exact ⟨_, _, rfl⟩
  · exact ⟨_, _, rfl⟩
/-! ### rows of other types are elsewhere -/
theorem own_else {w : World} {B : Nat} {e t : TypeId} {s n g : Nat} {v : Value} {xs : List Value} {cs : Array Value} (h : w.ownsRow B e s v n xs) (hg : Blk w g t cs) (het : e ≠ t) : v.ownBlock ≠ some g := by
  rcases h.2 with ⟨rfl, _⟩ | ⟨g', cap, cur, rfl, _, h3, _⟩
  · intro hc; cases hc
  · intro hc
    have hc : g' = g := by injection hc
    subst hc
    unfold Blk at hg
    rw [hg] at h3
    injection h3 with h3
    injection h3 with _ h5
    exact het h5.symm
theorem own_apart {w : World} {B : Nat} {e t : TypeId} {s n g : Nat} {v : Value} {xs : List Value} {cs : Array Value} (h : w.ownsRow B e s v n xs) (hg : Blk w g t cs) (het : e ≠ t) (j : Nat) (u : Value) : (w.setCell ⟨g, j, none⟩ u).ownsRow B e s v n xs := by
  have hne := own_else h hg het
  refine ⟨h.1, ?_⟩
  rcases h.2 with h2 | ⟨g', cap, cur, rfl, h2, h3, h4⟩
  · exact .inl h2
  · have hg' : g' ≠ g := fun hc => hne (by rw [hc]; rfl)
    exact .inr ⟨g', cap, cur, rfl, h2, (Below.heap_setCell w ⟨g, j, none⟩ u g' hg').trans h3, h4⟩
theorem own_own {w : World} {B B' : Nat} {e t : TypeId} {s s' n n' : Nat} {v u : Value} {xs ys : List Value} (h : w.ownsRow B e s v n xs) (hu : w.ownsRow B' t s' u n' ys) (het : e ≠ t) : v.ownBlock = none ∨ v.ownBlock ≠ u.ownBlock := by
  rcases hu.2 with ⟨rfl, _⟩ | ⟨g, cap, cur, rfl, _, hg, _⟩
  · cases hv : v.ownBlock with
    | none => exact .inl rfl
    | some k => exact .inr (by intro hc; cases hc)
  · exact .inr (own_else h hg het)
theorem row_grown {w w' : World} {B B' : Nat} {e t : TypeId} {s n : Nat} {v u : Value} {L : List Int} {xs : List Value} (h : RowAt B w e 1 intCells v L) (hu : w.ownsRow B' t s u n xs) (het : e ≠ t) (hg : w.grownBy w' u.ownBlock) : RowAt B w' e 1 intCells v L := by
  rcases h with h | ⟨g, cap, cur, h1, h2, h3, h4, h5⟩
  · exact .inl h
  · refine .inr ⟨g, cap, cur, h1, h2, h3.grown hg ?_, h4, h5⟩
    exact fun hc => own_else hu h3 (Ne.symm het) hc.symm
/-! ### what actions have come to, in the program's deeds -/
structure DsAt (B g : Nat) (w : World) (ve vo vi : Value) (X : Ds) : Prop where
  blk : Blk w g 38 #[ve, vo, vi]
  ge : B ≤ g
  env : OwnEnv B w ve X.env
  out : OwnOuts B w vo X.out
  ins : OwnIns B w vi X.ins
theorem DsAt.below {B g : Nat} {w w' : World} {ve vo vi : Value} {X : Ds} (h : DsAt B g w ve vo vi X) (hb : Below w.heap.size w w') : DsAt B g w' ve vo vi X :=
  ⟨h.blk.below hb h.blk.lt, h.ge, h.env.below hb, h.out.below hb, h.ins.below hb⟩
theorem DsAt.drewN {B g : Nat} {w : World} {ve vo vi : Value} {X : Ds} (h : DsAt B g w ve vo vi X) (n : Nat) : DsAt B g (w.drewN n) ve vo vi X := ⟨h.blk, h.ge, h.env, h.out, h.ins⟩
theorem DsAt.drew {B g : Nat} {w : World} {ve vo vi : Value} {X : Ds} (h : DsAt B g w ve vo vi X) : DsAt B g w.drew ve vo vi X := ⟨h.blk, h.ge, h.env, h.out, h.ins⟩
theorem DsAt.lt {B g : Nat} {w : World} {ve vo vi : Value} {X : Ds} (h : DsAt B g w ve vo vi X) : B ≤ w.heap.size := Nat.le_of_lt (Nat.lt_of_le_of_lt h.ge h.blk.lt)
theorem outs_snoc {B : Nat} {w : World} {v : Value} {L : List Ou} {o : Ou} (h : w.ownsRow B 41 4 v (L.length + 1) (L.flatMap ouCells ++ ouCells o)) : OwnOuts B w v (L ++ [o]) := by
  unfold OwnOuts
  rw [List.flatMap_append, List.length_append]
  simpa using h
theorem ins_snoc {B : Nat} {w : World} {v : Value} {L : List Int} {x : Int} (h : w.ownsRow B 3 1 v (L.length + 1) (intVals L ++ [.int .i64 x])) : OwnIns B w v (L ++ [x]) := by
  unfold OwnIns intVals
  rw [List.map_append, List.length_append]
  exact h
theorem DsAt.addOut {B g : Nat} {w w' : World} {ve vo vi v' : Value} {X : Ds} {o : Ou} (h : DsAt B g w ve vo vi X) (hg : w.grownBy w' vo.ownBlock) (ho : w'.ownsRow B 41 4 v' (X.out.length + 1) (X.out.flatMap ouCells ++ ouCells o)) :
    DsAt B g (w'.setCell ⟨g, 1, none⟩ v') ve v' vi ⟨X.env, X.out ++ [o], X.ins⟩ := by
  have hb : Blk w' g 38 #[ve, vo, vi] := h.blk.grown hg (Ne.symm (own_else h.out h.blk (by decide)))
  exact ⟨hb.set_ 1 v', h.ge, RowAt.apart (row_grown h.env h.out (by decide) hg) hb (by decide) 1 v', own_apart (outs_snoc ho) hb (by decide) 1 v', own_apart (World.ownsRow.kept h.ins hg (own_own h.ins h.out (by decide))) hb (by decide) 1 v'⟩
theorem DsAt.addIns {B g : Nat} {w w' : World} {ve vo vi v' : Value} {X : Ds} {x : Int} (h : DsAt B g w ve vo vi X) (hg : w.grownBy w' vi.ownBlock) (ho : w'.ownsRow B 3 1 v' (X.ins.length + 1) (intVals X.ins ++ [.int .i64 x])) :
    DsAt B g (w'.setCell ⟨g, 2, none⟩ v') ve vo v' ⟨X.env, X.out, X.ins ++ [x]⟩ := by
  have hb : Blk w' g 38 #[ve, vo, vi] := h.blk.grown hg (Ne.symm (own_else h.ins h.blk (by decide)))
  exact ⟨hb.set_ 2 v', h.ge, RowAt.apart (row_grown h.env h.ins (by decide) hg) hb (by decide) 2 v', own_apart (World.ownsRow.kept h.out hg (own_own h.out h.ins (by decide))) hb (by decide) 2 v', own_apart (ins_snoc ho) hb (by decide) 2 v'⟩
theorem envSet {B : Nat} {w : World} {b cap : Nat} {L : List Int} {k : Nat} {n : Int} (h : OwnEnv B w (.slice (some ⟨b, 0, none⟩) L.length cap) L) (hk : k < L.length) : OwnEnv B (w.setCell ⟨b, k, none⟩ (.int .i64 n)) (.slice (some ⟨b, 0, none⟩) L.length cap) (L.set k n) := by
  have := RowAt.put (cells := intCells) (r' := n) (u := .int .i64 n) (j := 0) (fun _ => rfl) h (List.getElem?_eq_getElem hk) (by decide) rfl
  rwa [Nat.mul_one, Nat.add_zero] at this
/-- where a variable lies -/
theorem OwnEnv.place {B : Nat} {w : World} {v : Value} {L : List Int} {k : Nat} (h : OwnEnv B w v L) (hk : k < L.length) : ∃ b cap cur, v = .slice (some ⟨b, 0, none⟩) L.length cap ∧ L.length ≤ cap ∧ B ≤ b ∧ Blk w b 2 cur ∧ w.cell? ⟨b, k, none⟩ = some (.int .i64 L[k]) ∧ w.frozen? ⟨b, k, none⟩ = false := by
  obtain ⟨g, cap, cur, rfl, hc, hB, hg, hu⟩ := RowAt.at_ h (List.getElem?_eq_getElem hk)
  have := hu 0 _ rfl
  rw [Nat.mul_one, Nat.add_zero] at this
  exact ⟨g, cap, cur, rfl, hc, hB, hg, this.1, this.2⟩
theorem DsAt.put {B g : Nat} {w : World} {b cap : Nat} {vo vi : Value} {X : Ds} {k : Nat} {n : Int} {cur : Array Value} (h : DsAt B g w (.slice (some ⟨b, 0, none⟩) X.env.length cap) vo vi X) (hb : Blk w b 2 cur) (hk : k < X.env.length) :
    DsAt B g (w.setCell ⟨b, k, none⟩ (.int .i64 n)) (.slice (some ⟨b, 0, none⟩) X.env.length cap) vo vi ⟨X.env.set k n, X.out, X.ins⟩ := by
  have hne : g ≠ b := by
    intro hc
    subst hc
    have h1 := h.blk
    unfold Blk at h1 hb
    rw [hb] at h1
    injection h1 with h1
    injection h1 with _ h5
    exact absurd h5 (by decide)
  exact ⟨(Below.heap_setCell w ⟨b, k, none⟩ _ g hne).trans h.blk, h.ge, envSet h.env hk, own_apart h.out hb (by decide) k _, own_apart h.ins hb (by decide) k _⟩
end Go.Proofs.YtafcbgapllkghaaGreatDoor
