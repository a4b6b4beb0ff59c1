/- Blocks, and rows of numbers of a call's own that begin anywhere in their block. No function of the program in this text. -/
import Derived.Test.YtpeaajimnggjpaaRows
import Derived.Below
import Derived.BigQuiet
import Derived.Deep.QuietTactic
import Derived.Laws.MakeOwn
import Derived.Laws.OwnMore
import Derived.Lib.Hide
import Derived.Lib.SliceRun
import Derived.Maps.AppendAt
import Derived.OpenShut
import Derived.Outline
import Derived.OwnWalk
import Derived.ProofKit
import Derived.WalkKit
import Derived.WalkSmall
import Derived.WalkSpells
import Derived.Sort.Grow
import Derived.ArgAppend
import Derived.Laws.IdiomCopy
import Derived.Maps.OwnSet
import Derived.Lib.AtoiErrMem
import Derived.Lib.SmallJoins
import Derived.Deep.Slices
import Derived.ChangeArms
import Derived.BigFrame
namespace Go.Proofs.Ytpeaajimnggjpaa
open Go.ChangeShapes Go.WideShapes Go.ChangeAt Go.RowKit
set_option linter.unusedVariables false

theorem ret_bool {a b : Bool} (h : a = b) : Ending.returned (.bool a) = .returned (.bool b) := by rw [h]
theorem ret_int {k : IntKind} {a b : Int} (h : a = b) : Ending.returned (.int k a) = .returned (.int k b) := by rw [h]
theorem below_drewN {B : Nat} {a w : World} (h : Below B a w) (n : Nat) : Below B a (w.drewN n) := ⟨h.os, h.tape, h.output, h.size, h.block⟩
theorem bcell {W w1 : World} (hb : Below W.heap.size W w1) : (∀ b o, b < W.heap.size → w1.cell? ⟨b, o, none⟩ = W.cell? ⟨b, o, none⟩) ∧ (∀ b o, b < W.heap.size → w1.frozen? ⟨b, o, none⟩ = W.frozen? ⟨b, o, none⟩) :=
  ⟨fun b o h => hb.cell (p := ⟨b, o, none⟩) h, fun b o h => hb.frozen (p := ⟨b, o, none⟩) h⟩
def Blk (w : World) (g : Nat) (t : TypeId) (cs : Array Value) : Prop := w.heap[g]? = some (.cells cs t (0, 0))
theorem Blk.cell {w : World} {g : Nat} {t : TypeId} {cs : Array Value} (h : Blk w g t cs) (i : Nat) : w.cell? ⟨g, i, none⟩ = cs[i]? := cell_of_row w g i cs t (0, 0) h
theorem Blk.frozen {w : World} {g : Nat} {t : TypeId} {cs : Array Value} (h : Blk w g t cs) (i : Nat) : w.frozen? ⟨g, i, none⟩ = false := by
  unfold Blk at h
  simp [World.frozen?, h]
theorem Blk.new (w : World) (t : TypeId) (cs : Array Value) : Blk (w.alloc (.cells cs t)) w.heap.size t cs := heap_alloc_new w _
theorem Blk.below {w w' : World} {g : Nat} {t : TypeId} {cs : Array Value} {B : Nat} (h : Blk w g t cs) (hb : Below B w w') (hg : g < B) : Blk w' g t cs := (hb.block g hg).trans h
theorem Blk.drewN {w : World} {g : Nat} {t : TypeId} {cs : Array Value} (h : Blk w g t cs) (n : Nat) : Blk (w.drewN n) g t cs := h
theorem Blk.set_ {w : World} {g : Nat} {t : TypeId} {cs : Array Value} (h : Blk w g t cs) (i : Nat) (u : Value) : Blk (w.setCell ⟨g, i, none⟩ u) g t (cs.setIfInBounds i u) := by
  unfold Blk at h ⊢
  simp [World.setCell, Array.getElem?_modify, h]
theorem Blk.lt {w : World} {g : Nat} {t : TypeId} {cs : Array Value} (h : Blk w g t cs) : g < w.heap.size := by
  rcases Nat.lt_or_ge g w.heap.size with hlt | hge
  · exact hlt
  · unfold Blk at h; rw [Array.getElem?_eq_none hge] at h; cases h
theorem Blk.alloc {w : World} {g : Nat} {t : TypeId} {cs : Array Value} (h : Blk w g t cs) (o : Obj) : Blk (w.alloc o) g t cs := (Below.heap_alloc w o g h.lt).trans h
theorem Blk.new_at (w : World) (t : TypeId) (cs : Array Value) (g : Nat) (hg : w.heap.size = g) : Blk (w.alloc (.cells cs t)) g t cs := hg ▸ Blk.new w t cs
theorem only_of_below {a w : World} (h : Below a.heap.size a w) (row : Option Nat) : a.grownBy w row := ⟨h.os, h.tape, h.output, h.size, fun i hi _ => h.block i hi⟩
theorem own_below {w w' : World} {base : Nat} {e : TypeId} {size : Nat} {v : Value} {n : Nat} {xs : List Value} (h : w.ownsRow base e size v n xs) (hb : Below w.heap.size w w') : w'.ownsRow base e size v n xs := by
  refine h.kept (only_of_below hb none) ?_
  by_cases hn : v.ownBlock = none
  · exact .inl hn
  · exact .inr hn
theorem Blk.grown {w w' : World} {g : Nat} {t : TypeId} {cs : Array Value} {row : Option Nat} (h : Blk w g t cs) (hg : w.grownBy w' row) (hr : some g ≠ row) : Blk w' g t cs := (hg.block g h.lt hr).trans h
theorem Blk.set_ne {w : World} {g g' : Nat} {t : TypeId} {cs : Array Value} (h : Blk w g t cs) (hne : g ≠ g') (j : Nat) (u : Value) : Blk (w.setCell ⟨g', j, none⟩ u) g t cs := (Below.heap_setCell w ⟨g', j, none⟩ u g hne).trans h
def intVals (xs : List Int) : List Value := xs.map fun x => .int .i64 x
theorem intVals_len (xs : List Int) : (intVals xs).length = xs.length := by simp [intVals]
theorem intVals_app (xs ys : List Int) : intVals (xs ++ ys) = intVals xs ++ intVals ys := by simp [intVals]
theorem int_one (x : Int) : ∀ u ∈ [Value.int .i64 x], u.oneCell' = true := by
  intro u hu
  obtain rfl := List.mem_singleton.1 hu
  rfl
def InAt (w : World) (B : Nat) (e : TypeId) (v : Value) (L : List Int) : Prop :=
  (v = .slice none 0 0 ∧ L = []) ∨ ∃ g o cap cur, v = .slice (some ⟨g, o, none⟩) L.length cap ∧ B ≤ g ∧ Blk w g e cur ∧ L.length ≤ cap ∧ o + cap ≤ cur.size ∧ (cur.toList.drop o).take L.length = intVals L
theorem InAt.of_own {w : World} {B : Nat} {e : TypeId} {v : Value} {n : Nat} {L : List Int} (h : w.ownsRow B e 1 v n (intVals L)) : InAt w B e v L := by
  have hn : n = L.length := by
    have := h.1
    unfold intVals at this
    rw [List.length_map] at this
    omega
  subst hn
  rcases h.2 with ⟨hv, h0⟩ | ⟨g, cap, cur, hv, hb, hg, hnc, _, hs, ht⟩
  · exact .inl ⟨hv, List.eq_nil_of_length_eq_zero h0⟩
  · exact .inr ⟨g, 0, cap, cur, hv, hb, hg, hnc, by omega, by simpa using ht⟩
theorem InAt.cell {w : World} {g o m n cap : Nat} {e : TypeId} {cur : Array Value} {xs : List Value} (hg : Blk w g e cur) (h : (cur.toList.drop o).take n = xs) {j : Nat} {u : Value} (hj : xs[j]? = some u) : w.cell? ⟨g, o + j, none⟩ = some u := by
  rw [hg.cell]
  rw [← h, List.getElem?_take] at hj
  split at hj
  · rw [List.getElem?_drop] at hj
    simpa using hj
  · cases hj
theorem InAt.slice {w : World} {B : Nat} {e : TypeId} {v : Value} {L : List Int} (h : InAt w B e v L) : ∃ A cap, v = .slice A L.length cap := by
  rcases h with ⟨rfl, rfl⟩ | ⟨g, o, cap, cur, rfl, _⟩
  · exact ⟨none, 0, rfl⟩
  · exact ⟨_, _, rfl⟩
theorem InAt.lt {w : World} {B : Nat} {e : TypeId} {v : Value} {L : List Int} (h : InAt w B e v L) : ∀ k, v.ownBlock = some k → B ≤ k ∧ k < w.heap.size := by
  intro k hk
  rcases h with ⟨rfl, rfl⟩ | ⟨g, o, cap, cur, rfl, hb, hg, _⟩
  · cases hk
  · injection hk with hk
    subst hk
    exact ⟨hb, hg.lt⟩
theorem InAt.base {w : World} {B B' : Nat} {e : TypeId} {v : Value} {L : List Int} (h : InAt w B e v L) (hB : B' ≤ B) : InAt w B' e v L := by
  rcases h with h | ⟨g, o, cap, cur, h1, hb, h2⟩
  · exact .inl h
  · exact .inr ⟨g, o, cap, cur, h1, Nat.le_trans hB hb, h2⟩
theorem InAt.else_ {w : World} {B : Nat} {e t : TypeId} {g : Nat} {v : Value} {L : List Int} {cs : Array Value} (h : InAt w B e v L) (hg : Blk w g t cs) (het : e ≠ t) : v.ownBlock ≠ some g := by
  intro hc
  rcases h with ⟨rfl, rfl⟩ | ⟨g', o, cap, cur, rfl, hb, hg', _⟩
  · cases hc
  · injection hc with hc
    have hc : g' = g := hc
    subst hc
    unfold Blk at hg hg'
    rw [hg] at hg'
    injection hg' with h1
    injection h1 with h2 h3
    exact het h3.symm
theorem InAt.kept {w w' : World} {B : Nat} {e : TypeId} {row : Option Nat} {v : Value} {L : List Int} (h : InAt w B e v L) (hg : w.grownBy w' row) (hne : v.ownBlock = none ∨ v.ownBlock ≠ row) : InAt w' B e v L := by
  rcases h with h | ⟨g, o, cap, cur, rfl, hb, hgg, rest⟩
  · exact .inl h
  · refine .inr ⟨g, o, cap, cur, rfl, hb, hgg.grown hg ?_, rest⟩
    rcases hne with h | h
    · cases h
    · exact h
theorem InAt.below {w w' : World} {B : Nat} {e : TypeId} {v : Value} {L : List Int} (h : InAt w B e v L) (hb : Below w.heap.size w w') : InAt w' B e v L := by
  rcases h with h | ⟨g, o, cap, cur, rfl, hb1, hgg, rest⟩
  · exact .inl h
  · exact .inr ⟨g, o, cap, cur, rfl, hb1, hgg.below hb hgg.lt, rest⟩
theorem InAt.apart {w : World} {B : Nat} {e t : TypeId} {g : Nat} {v : Value} {L : List Int} {cs : Array Value} (h : InAt w B e v L) (hg : Blk w g t cs) (het : e ≠ t) (j : Nat) (u : Value) : InAt (w.setCell ⟨g, j, none⟩ u) B e v L := by
  have hne := h.else_ hg het
  rcases h with h | ⟨g', o, cap, cur, rfl, hb1, hgg, rest⟩
  · exact .inl h
  · exact .inr ⟨g', o, cap, cur, rfl, hb1, hgg.set_ne (fun hc => hne (by rw [← hc]; rfl)) j u, rest⟩
theorem InAt.tail {w : World} {B : Nat} {e : TypeId} {x : Int} {g o cap : Nat} {L : List Int} (h : InAt w B e (.slice (some ⟨g, o, none⟩) (L.length + 1) cap) (x :: L)) :
    w.cell? ⟨g, o, none⟩ = some (.int .i64 x) ∧ 0 < cap ∧ InAt w B e (.slice (some ⟨g, if cap = 1 then o else o + 1, none⟩) L.length (cap - 1)) L := by
  rcases h with ⟨hv, hL⟩ | ⟨g', o', cap', cur, hv, hb, hg, hnc, hs, ht⟩
  · cases hL
  · injection hv with h1 h2 h3
    injection h1 with h1
    injection h1 with h4 h5 h6
    subst h4 h5 h3
    rw [List.length_cons] at hnc ht
    have h0 : w.cell? ⟨g, o + 0, none⟩ = some (.int .i64 x) := InAt.cell (m := 0) (cap := 0) hg ht rfl
    refine ⟨h0, by omega, .inr ⟨g, _, cap - 1, cur, rfl, hb, hg, by omega, ?_, ?_⟩⟩
    · split <;> omega
    · by_cases h1 : cap = 1
      · obtain rfl : L = [] := List.eq_nil_of_length_eq_zero (by omega)
        rfl
      · rw [if_neg h1]
        have h7 : intVals (x :: L) = .int .i64 x :: intVals L := rfl
        rw [h7] at ht
        have h8 : (cur.toList.drop o) = .int .i64 x :: cur.toList.drop (o + 1) := by
          have hlt : o < cur.toList.length := by rw [Array.length_toList]; omega
          rw [List.drop_eq_getElem_cons hlt] at ht ⊢
          rw [List.take_succ_cons] at ht
          injection ht with h9 h10
          rw [h9]
        rw [h8, List.take_succ_cons] at ht
        injection ht
section
variable {P : Program}
theorem run_append_in (w : World) (t ty : TypeId) (B : Nat) (e : TypeId) (i : TypeInfo) (z : Value) (bytes : Nat) (ht : P.underlying t = some (.slice e)) (hi : P.info? e = some i) (hz : i.zero = some z)
    (hsize : i.size = 1) (hby : i.bytes = bytes) (hzs : z.cells.size = 1) (v : Value) (L : List Int) (hown : InAt w B e v L)
    (ad : Addr) (c : Nat) (x : Int) (hnew : w.cell? ad = some (.int .i64 x)) (h63 : L.length + 1 ≤ maxLen) (hbytes : (L.length + 1) * bytes ≤ 140737488355328) (hB : B ≤ w.heap.size) :
    ∃ v' w', (Builtin.append_ #[t, t] ty #[v, .slice (some ad) 1 c]).run P w = .ok v' w' ∧ InAt w' B e v' (L ++ [x]) ∧ w.grownBy w' v.ownBlock ∧ ∀ k, v'.ownBlock = some k → v.ownBlock = some k ∨ w.heap.size ≤ k := by
  have hiv : intVals (L ++ [x]) = intVals L ++ [.int .i64 x] := by unfold intVals; rw [List.map_append]; rfl
  have hnews : ∀ j u, [Value.int .i64 x][j]? = some u → w.cell? (ad.add j) = some u := fun j u hj => by
    cases j with
    | zero =>
      simp only [List.getElem?_cons_zero, Option.some.injEq] at hj
      subst hj
      have : ad.add 0 = ad := by unfold Addr.add; simp
      rw [this, hnew]
    | succ j => simp at hj
  have hlv : (intVals L).length = L.length := by unfold intVals; exact List.length_map _
  rcases hown with ⟨rfl, rfl⟩ | ⟨g, o, cap, cur, rfl, hb, hg, hnc, hs, htk⟩
  · obtain ⟨v', w', h1, h2, h3, -⟩ := run_append_own (P := P) w w.heap.size t ty e i z 1 bytes ht hi hz hsize hby hzs (by decide) (.slice none 0 0) 0 [] (World.ownsRow_nil w _ e 1) ad 1 c [.int .i64 x] rfl hnews (fun u hu => by rw [List.mem_singleton] at hu; subst hu; rfl) h63 hbytes (Nat.le_refl _)
    exact ⟨v', w', h1, (InAt.of_own (n := 0 + 1) h2).base hB, h3, fun k hk => .inr (h2.lt k hk).1⟩
  · by_cases hr : L.length + 1 ≤ cap
    · have hrun := run_append_room_cells (P := P) w t ty e i ht hi g o L.length cap ad 1 c [.int .i64 x] (by rw [hsize]; rfl) hnews (fun u hu => by rw [List.mem_singleton] at hu; subst hu; rfl) hr (fun j hj => by
          have hj : j = 0 := by simpa using hj
          subst hj
          rw [hg.cell, hsize]
          rw [Array.getElem?_eq_getElem (by omega)]
          rfl) (fun j hj => hg.frozen _)
      refine ⟨_, _, hrun, ?_, ?_, fun k hk => .inl hk⟩
      · refine .inr ⟨g, o, cap, cur.setIfInBounds (o + L.length * i.size) (.int .i64 x), by rw [List.length_append]; rfl, hb, ?_, by rw [List.length_append]; exact hr, by rw [Array.size_setIfInBounds]; exact hs, ?_⟩
        · exact hg.set_ _ _
        · rw [hsize, Nat.mul_one, List.length_append, hiv, Array.toList_setIfInBounds]
          have hcs : cur.toList.length = cur.size := Array.length_toList
          have hlt : o + L.length < cur.toList.length := by clear hbytes; omega
          refine List.ext_getElem? fun j => ?_
          rw [List.length_singleton, List.getElem?_take]
          by_cases hj : j < L.length + 1
          · rw [if_pos hj, List.getElem?_drop]
            by_cases hj2 : j = L.length
            · subst hj2
              rw [List.getElem?_set_self hlt, List.getElem?_append_right (by omega), hlv, Nat.sub_self]
              rfl
            · rw [List.getElem?_set_ne (by omega), List.getElem?_append_left (by omega), ← htk, List.getElem?_take, if_pos (by omega), List.getElem?_drop]
          · rw [if_neg hj, List.getElem?_eq_none (by rw [List.length_append, hlv, List.length_singleton]; omega)]
      · refine ⟨rfl, rfl, rfl, by simp [World.setCells], fun k _ hk => ?_⟩
        exact Below.heap_setCell w ⟨g, _, none⟩ _ k (fun hc => hk (by rw [hc]; rfl))
    · obtain ⟨v', w', h1, h2, h3⟩ := run_append_arg_grows (P := P) w t ty e i z 1 bytes ht hi hz hsize hby hzs (by decide) ⟨g, o, none⟩ L.length cap (intVals L) (by rw [hlv]; omega) (fun j u hj => by rw [Addr.add_lit]; exact InAt.cell (m := 0) (cap := 0) hg htk hj) ad 1 c [.int .i64 x] rfl hnews (by omega) h63 hbytes
      rw [← hiv] at h2
      exact ⟨v', w', h1, (InAt.of_own h2).base hB, ⟨h3.os, h3.tape, h3.output, h3.size, fun k hk _ => h3.block k hk (by simp)⟩, fun k hk => .inr (h2.lt k hk).1⟩
theorem wp_append_in {W : World} {o : Oper} {a : Act} {K : Act → World → Prop} {Q : Exit → Act → World → Prop} (s x : Operand) (t : TypeId)
    (ho : o.op = .call { callee := .builtin .append, args := #[s, x], argTypes := #[t, t] })
    (B : Nat) (e : TypeId) (i : TypeInfo) (z : Value) (bytes : Nat) (ht : P.underlying t = some (.slice e)) (hi : P.info? e = some i) (hz : i.zero = some z)
    (hsize : i.size = 1) (hby : i.bytes = bytes) (hzs : z.cells.size = 1) (v : Value) (L : List Int) (hs : a.eval s = v) (hown : InAt W B e v L)
    (ad : Addr) (c : Nat) (y : Int) (hx : a.eval x = .slice (some ad) 1 c) (hnew : W.cell? ad = some (.int .i64 y)) (h63 : L.length + 1 ≤ maxLen) (hbytes : (L.length + 1) * bytes ≤ 140737488355328) (hB : B ≤ W.heap.size)
    (h : ∀ v' w', InAt w' B e v' (L ++ [y]) → W.grownBy w' v.ownBlock → (∀ k, v'.ownBlock = some k → v.ownBlock = some k ∨ W.heap.size ≤ k) → K (a.put o.dst v') w') : o.wp P a W K Q := by
  obtain ⟨v', w', hrun, h1, h2, h3⟩ := run_append_in (P := P) W t o.type B e i z bytes ht hi hz hsize hby hzs v L hown ad c y hnew h63 hbytes hB
  unfold Oper.wp execOp
  simp only [ho, resolve, invoke, builtin, Sem.run_bind, Sem.run_pure, Result.andThen_ok, List.map_toArray, List.map_cons, List.map_nil, hs, hx, hrun]
  exact h v' w' h1 h2 h3
theorem wpList_append_in {W : World} {ops : Array Oper} {rest : List Oper} {o : Oper} {a : Act} {Q : Exit → Act → World → Prop} (hw : Region.wanted o (yielded ops a.tmps) = true) (s x : Operand) (t : TypeId)
    (ho : o.op = .call { callee := .builtin .append, args := #[s, x], argTypes := #[t, t] })
    (B : Nat) (e : TypeId) (i : TypeInfo) (z : Value) (bytes : Nat) (ht : P.underlying t = some (.slice e)) (hi : P.info? e = some i) (hz : i.zero = some z)
    (hsize : i.size = 1) (hby : i.bytes = bytes) (hzs : z.cells.size = 1) (v : Value) (L : List Int) (hs : a.eval s = v) (hown : InAt W B e v L)
    (ad : Addr) (c : Nat) (y : Int) (hx : a.eval x = .slice (some ad) 1 c) (hnew : W.cell? ad = some (.int .i64 y)) (h63 : L.length + 1 ≤ maxLen) (hbytes : (L.length + 1) * bytes ≤ 140737488355328) (hB : B ≤ W.heap.size)
    (h : ∀ v' w', InAt w' B e v' (L ++ [y]) → W.grownBy w' v.ownBlock → (∀ k, v'.ownBlock = some k → v.ownBlock = some k ∨ W.heap.size ≤ k) → wpList P ops Q rest (a.put o.dst v') w') : wpList P ops Q (o :: rest) a W :=
  BigFrame.wpList_want hw fun K hK => wp_append_in s x t ho B e i z bytes ht hi hz hsize hby hzs v L hs hown ad c y hx hnew h63 hbytes hB fun v' w' h1 h2 h3 => hK _ _ (h v' w' h1 h2 h3)
end
/-! ### rows of cells -/
theorem flatMap_len {ρ : Type} {cells : ρ → List Value} {n : Nat} (hn : ∀ r, (cells r).length = n) : ∀ xs : List ρ, (xs.flatMap cells).length = xs.length * n
  | [] => by simp
  | x :: xs => by rw [List.flatMap_cons, List.length_append, hn, flatMap_len hn xs, List.length_cons, Nat.succ_mul]; omega
theorem cells_flat {ρ : Type} {cells : ρ → List Value} {n : Nat} (hn : ∀ r, (cells r).length = n) : ∀ (xs : List ρ) (i : Nat) (x : ρ) (j : Nat) (u : Value), xs[i]? = some x → (cells x)[j]? = some u → (xs.flatMap cells)[i * n + j]? = some u
  | [], i, x, j, u, h, _ => by simp at h
  | y :: ys, 0, x, j, u, h, hu => by
    simp at h
    subst h
    have hj := (List.getElem?_eq_some_iff.1 hu).1
    rw [List.flatMap_cons, Nat.zero_mul, Nat.zero_add, List.getElem?_append_left hj]
    exact hu
  | y :: ys, i + 1, x, j, u, h, hu => by
    simp at h
    rw [List.flatMap_cons, List.getElem?_append_right (by rw [hn, Nat.succ_mul]; omega), hn, show (i + 1) * n + j - n = i * n + j by rw [Nat.succ_mul]; omega]
    exact cells_flat hn ys i x j u h hu
/-- where an element's cell is, the element is -/
theorem cells_inv {ρ : Type} {cells : ρ → List Value} {n : Nat} (hn : ∀ r, (cells r).length = n) : ∀ (xs : List ρ) (k : Nat) (u : Value), (xs.flatMap cells)[k]? = some u → ∃ i j x, k = i * n + j ∧ xs[i]? = some x ∧ (cells x)[j]? = some u
  | [], k, u, h => by simp at h
  | y :: ys, k, u, h => by
    rw [List.flatMap_cons] at h
    by_cases hk : k < (cells y).length
    · rw [List.getElem?_append_left hk] at h
      exact ⟨0, k, y, by omega, rfl, h⟩
    · rw [List.getElem?_append_right (by omega)] at h
      obtain ⟨i, j, x, h1, h2, h3⟩ := cells_inv hn ys _ u h
      refine ⟨i + 1, j, x, ?_, by simpa using h2, h3⟩
      rw [hn] at h1 hk
      rw [Nat.succ_mul]
      omega
def RowsAt {α : Type} (n : Nat) (P : World → Nat → Nat → α → Prop) (w : World) (v : Value) (xs : List α) : Prop :=
  ∃ (A : Option Addr) (cap : Nat), v = .slice A xs.length cap ∧ xs.length ≤ cap ∧ ∀ (i : Nat) (x : α), xs[i]? = some x → ∃ b o : Nat, A = some ⟨b, o, none⟩ ∧ b < w.heap.size ∧ P w b (o + i * n) x
def Keeps {α : Type} (P : World → Nat → Nat → α → Prop) : Prop := ∀ (w w' : World) (b o : Nat) (x : α), Below w.heap.size w w' → b < w.heap.size → P w b o x → P w' b o x
theorem RowsAt.below {α : Type} {n : Nat} {P : World → Nat → Nat → α → Prop} (hP : Keeps P) {w w' : World} {v : Value} {xs : List α} (h : RowsAt n P w v xs) (hb : Below w.heap.size w w') : RowsAt n P w' v xs := by
  obtain ⟨A, cap, hv, hc, hi⟩ := h
  refine ⟨A, cap, hv, hc, fun i t ht => ?_⟩
  obtain ⟨b, o, hA, hlt, h0⟩ := hi i t ht
  exact ⟨b, o, hA, Nat.lt_of_lt_of_le hlt hb.size, hP w w' b _ t hb hlt h0⟩
theorem RowsAt.nil {α : Type} {n : Nat} {P : World → Nat → Nat → α → Prop} (w : World) : RowsAt n P w (.slice none 0 0) ([] : List α) := ⟨none, 0, rfl, Nat.le_refl _, fun i t h => by simp at h⟩
def Short (n : Nat) : Prop := n ≤ 9223372036854775807
def IntAt (w : World) (b o : Nat) (x : Int) : Prop := w.cell? ⟨b, o, none⟩ = some (.int .i64 x)
theorem IntAt.keeps : Keeps IntAt := fun w w' b o x hb hlt h => (hb.cell (p := ⟨b, o, none⟩) hlt).trans h
def ListAt (w : World) (v : Value) (xs : List Int) : Prop := RowsAt 1 IntAt w v xs
theorem ListAt.below {w w' : World} {v : Value} {xs : List Int} (h : ListAt w v xs) (hb : Below w.heap.size w w') : ListAt w' v xs := RowsAt.below IntAt.keeps h hb
theorem RowsAt.slice {α : Type} {n : Nat} {P : World → Nat → Nat → α → Prop} {w : World} {v : Value} {xs : List α} (h : RowsAt n P w v xs) : ∃ A cap, v = .slice A xs.length cap ∧ xs.length ≤ cap := let ⟨A, cap, h1, h2, _⟩ := h; ⟨A, cap, h1, h2⟩
theorem list_of {α : Type} (P : Nat → α → Prop) : ∀ (len : Nat), (∀ i, i < len → ∃ x, P i x) → ∃ xs : List α, xs.length = len ∧ ∀ (i : Nat) (x : α), xs[i]? = some x → P i x
  | 0, _ => ⟨[], rfl, fun i x h => by simp at h⟩
  | n + 1, h => by
    obtain ⟨xs, hl, hx⟩ := list_of P n (fun i hi => h i (by omega))
    obtain ⟨y, hy⟩ := h n (by omega)
    refine ⟨xs ++ [y], by simp [hl], fun i x hi => ?_⟩
    by_cases hin : i < xs.length
    · rw [List.getElem?_append_left hin] at hi
      exact hx i x hi
    · rw [List.getElem?_append_right (by omega)] at hi
      have hi0 : i - xs.length = 0 := by
        have := (List.getElem?_eq_some_iff.1 hi).1
        simp at this
        omega
      rw [hi0] at hi
      simp at hi
      subst hi
      rw [show i = n by omega]
      exact hy
theorem flat_of_cell {W : World} {a : Addr} {v : Value} (h : W.cell? a = some v) : a = ⟨a.block, a.off, none⟩ := by
  obtain ⟨b, o, s⟩ := a
  unfold World.cell? at h
  split at h
  · cases s with
    | none => rfl
    | some x => simp at h
  · cases h
theorem flat_add (b o i : Nat) : (⟨b, o, none⟩ : Addr).add i = ⟨b, o + i, none⟩ := by
  unfold Addr.add
  by_cases h : i = 0 <;> simp [h]
/-- a row of elements in a block from B on, of type e -/
def RowAt {ρ : Type} (B : Nat) (w : World) (e n : Nat) (cells : ρ → List Value) (v : Value) (rs : List ρ) : Prop :=
  (v = .slice none 0 0 ∧ rs = []) ∨
  ∃ g cap cur, v = .slice (some ⟨g, 0, none⟩) rs.length cap ∧ B ≤ g ∧ Blk w g e cur ∧ rs.length ≤ cap ∧ ∀ i r j u, rs[i]? = some r → (cells r)[j]? = some u → cur[i * n + j]? = some u
theorem RowAt.of_own {ρ : Type} {B : Nat} {w : World} {e n : Nat} {cells : ρ → List Value} {v : Value} {rs : List ρ} (hn : ∀ r, (cells r).length = n) (h : w.ownsRow B e n v rs.length (rs.flatMap cells)) : RowAt B w e n cells v rs := by
  rcases h.2 with ⟨rfl, hz⟩ | ⟨g, cap, cur, rfl, hB, hg, hc, _, hs, ht⟩
  · exact .inl ⟨rfl, List.eq_nil_of_length_eq_zero hz⟩
  · refine .inr ⟨g, cap, cur, rfl, hB, hg, hc, fun i r j u hr hu => ?_⟩
    have hj := (List.getElem?_eq_some_iff.1 hu).1
    rw [hn] at hj
    have hi := (List.getElem?_eq_some_iff.1 hr).1
    have hlt : i * n + j < rs.length * n := by
      have := Nat.mul_le_mul_right n (show i + 1 ≤ rs.length from hi)
      rw [Nat.succ_mul] at this
      omega
    have := cells_flat hn rs i r j u hr hu
    rw [← ht, List.getElem?_take, if_pos hlt] at this
    rw [← this]
    simp
theorem RowAt.below {ρ : Type} {B : Nat} {w w' : World} {e n : Nat} {cells : ρ → List Value} {v : Value} {rs : List ρ} (h : RowAt B w e n cells v rs) (hb : Below w.heap.size w w') : RowAt B w' e n cells v rs := by
  rcases h with h | ⟨g, cap, cur, h1, h2, h3, h4, h5⟩
  · exact .inl h
  · exact .inr ⟨g, cap, cur, h1, h2, h3.below hb h3.lt, h4, h5⟩
/-- it reads as a row of data -/
theorem RowAt.rows {ρ α : Type} {B : Nat} {w : World} {e n : Nat} {cells : ρ → List Value} {v : Value} {rs : List ρ} {val : ρ → α} {P : World → Nat → Nat → α → Prop} (h : RowAt B w e n cells v rs)
    (hP : ∀ r ∈ rs, ∀ b o, (∀ j u, (cells r)[j]? = some u → w.cell? ⟨b, o + j, none⟩ = some u) → P w b o (val r)) : RowsAt n P w v (rs.map val) := by
  rcases h with ⟨rfl, rfl⟩ | ⟨g, cap, cur, rfl, hB, hg, hc, h5⟩
  · exact RowsAt.nil _
  · refine ⟨_, cap, by rw [List.length_map], by rw [List.length_map]; exact hc, fun i x hx => ?_⟩
    rw [List.getElem?_map] at hx
    obtain ⟨r, hr, rfl⟩ := Option.map_eq_some_iff.1 hx
    refine ⟨g, 0, rfl, hg.lt, hP r (List.mem_of_getElem? hr) _ _ fun j u hu => ?_⟩
    rw [hg.cell, Nat.zero_add]
    exact h5 i r j u hr hu
/-- where an element lies -/
theorem RowAt.at_ {ρ : Type} {B : Nat} {w : World} {e n : Nat} {cells : ρ → List Value} {v : Value} {rs : List ρ} (h : RowAt B w e n cells v rs) {i : Nat} {r : ρ} (hr : rs[i]? = some r) :
    ∃ g cap cur, v = .slice (some ⟨g, 0, none⟩) rs.length cap ∧ rs.length ≤ cap ∧ B ≤ g ∧ Blk w g e cur ∧ ∀ j u, (cells r)[j]? = some u → w.cell? ⟨g, i * n + j, none⟩ = some u ∧ w.frozen? ⟨g, i * n + j, none⟩ = false := by
  rcases h with ⟨rfl, rfl⟩ | ⟨g, cap, cur, rfl, hB, hg, hc, h5⟩
  · simp at hr
  · exact ⟨g, cap, cur, rfl, hc, hB, hg, fun j u hu => ⟨by rw [hg.cell]; exact h5 i r j u hr hu, hg.frozen _⟩⟩
/-- a slice whose cells are these -/
def RowIs (w : World) (n : Nat) (v : Value) (len : Nat) (news : List Value) : Prop :=
  news.length = len * n ∧ ((∃ c, v = .slice none 0 c ∧ len = 0) ∨ ∃ ad cap, v = .slice (some ad) len cap ∧ (∀ j u, news[j]? = some u → w.cell? (ad.add j) = some u) ∧ ∀ u ∈ news, u.oneCell' = true)
/-- a slice of elements as cells to be copied -/
theorem rowIs_of {α : Type} {n : Nat} {P : World → Nat → Nat → α → Prop} {cells : α → List Value} {w : World} {v : Value} {xs : List α} (hn : ∀ r, (cells r).length = n) (hpos : 0 < n) (h : RowsAt n P w v xs)
    (hP : ∀ b o x, P w b o x → ∀ j u, (cells x)[j]? = some u → w.cell? ⟨b, o + j, none⟩ = some u) (h1 : ∀ x ∈ xs, ∀ u ∈ cells x, u.oneCell' = true) : RowIs w n v xs.length (xs.flatMap cells) := by
  refine ⟨flatMap_len hn xs, ?_⟩
  obtain ⟨A, cap, rfl, hc, hi⟩ := h
  have ho : ∀ u ∈ xs.flatMap cells, u.oneCell' = true := by
    intro u hu
    obtain ⟨x, hx, hu⟩ := List.mem_flatMap.1 hu
    exact h1 x hx u hu
  cases A with
  | none =>
    cases xs with
    | nil => exact .inl ⟨cap, rfl, rfl⟩
    | cons x xs => obtain ⟨b, o, hA, _⟩ := hi 0 x rfl; cases hA
  | some a =>
    refine .inr ⟨a, cap, rfl, fun k u hu => ?_, ho⟩
    obtain ⟨i, j, x, rfl, hx, hj⟩ := cells_inv hn xs k u hu
    obtain ⟨b, o, hA, _, hp⟩ := hi i x hx
    injection hA with hA
    subst hA
    rw [flat_add]
    have := hP b _ x hp j u hj
    rw [← this]
    congr 2
    omega
theorem wp_append_at {P : Program} {o : Oper} {a : Act} {w : World} {K : Act → World → Prop} {Q : Exit → Act → World → Prop} (s x : Operand) (t : TypeId)
    (ho : o.op = .call { callee := .builtin .append, args := #[s, x], argTypes := #[t, t] })
    (base : Nat) (e : TypeId) (i : TypeInfo) (z : Value) (size bytes : Nat) (ht : P.underlying t = some (.slice e)) (hi : P.info? e = some i) (hz : i.zero = some z)
    (hsize : i.size = size) (hby : i.bytes = bytes) (hzs : z.cells.size = size) (hsz : 0 < size)
    (v : Value) (n : Nat) (xs : List Value) (hs : a.eval s = v) (hown : w.ownsRow base e size v n xs)
    (ad : Addr) (m c : Nat) (news : List Value) (hx : a.eval x = .slice (some ad) m c) (hl : news.length = m * size) (hnews : ∀ j u, news[j]? = some u → w.cell? (ad.add j) = some u) (h1 : ∀ u ∈ news, u.oneCell' = true)
    (h63 : n + m ≤ maxLen) (hbytes : (n + m) * bytes ≤ 140737488355328) (hbase : base ≤ w.heap.size)
    (h : ∀ v' w', w'.ownsRow base e size v' (n + m) (xs ++ news) → w.grownBy w' v.ownBlock → (v'.ownBlock = v.ownBlock ∨ v'.ownBlock = some w.heap.size) → K (a.put o.dst v') w') :
    o.wp P a w K Q := by
  obtain ⟨v', w', hr, h2, h3, h4, h5⟩ := run_append_own_at (P := P) w base t o.type e i z size bytes ht hi hz hsize hby hzs hsz v n xs hown ad m c news hl hnews h1 h63 hbytes hbase
  unfold Oper.wp execOp
  simp only [ho, resolve, invoke, builtin, Sem.run_bind, Sem.run_pure, Result.andThen_ok, List.map_toArray, List.map_cons, List.map_nil, hs, hx, hr]
  exact h _ _ h2 h3 h5
/-- an append of a row of cells, nil or not -/
theorem wp_append_row {P : Program} {w W : World} {o : Oper} {a : Act} {K : Act → World → Prop} {Q : Exit → Act → World → Prop} (s x : Operand) (t : TypeId)
    (ho : o.op = .call { callee := .builtin .append, args := #[s, x], argTypes := #[t, t] })
    (base : Nat) (e : TypeId) (i : TypeInfo) (z : Value) (size bytes : Nat) (ht : P.underlying t = some (.slice e)) (hi : P.info? e = some i) (hz : i.zero = some z)
    (hsize : i.size = size) (hby : i.bytes = bytes) (hzs : z.cells.size = size) (hsz : 0 < size)
    (v : Value) (n : Nat) (xs : List Value) (hs : a.eval s = v) (hown : W.ownsRow base e size v n xs)
    (u : Value) (m : Nat) (news : List Value) (hx : a.eval x = u) (hr : RowIs w size u m news) (hb : Below w.heap.size w W)
    (h63 : n + m ≤ maxLen) (hbytes : (n + m) * bytes ≤ 140737488355328) (hbase : base ≤ W.heap.size)
    (h : ∀ v' w', w'.ownsRow base e size v' (n + m) (xs ++ news) → W.grownBy w' v.ownBlock → K (a.put o.dst v') w') : o.wp P a W K Q := by
  obtain ⟨hn, ⟨c, rfl, rfl⟩ | ⟨ad, cap, rfl, hc, h1⟩⟩ := hr
  · obtain rfl : news = [] := List.eq_nil_of_length_eq_zero (by simpa using hn)
    have hrun : (Builtin.append_ #[t, t] o.type #[v, .slice none 0 c]).run P W = .ok v W := by
      rcases hown.2 with ⟨rfl, rfl⟩ | ⟨g, cap, cur, rfl, _, _, hnc, _⟩
      · simp [Builtin.append_, run_underlying ht, sizeOf, typeInfo, hi, Builtin.lenOf, Builtin.firstCells, go_sem]
      · simp [Builtin.append_, run_underlying ht, sizeOf, typeInfo, hi, Builtin.lenOf, Builtin.firstCells, hnc, storeCells, go_sem]
    unfold Oper.wp execOp
    simp only [ho, resolve, invoke, builtin, Sem.run_bind, Sem.run_pure, Result.andThen_ok, List.map_toArray, List.map_cons, List.map_nil, hs, hx, hrun]
    exact h v W (by simpa using hown) ⟨rfl, rfl, rfl, Nat.le_refl _, fun _ _ _ => rfl⟩
  · exact wp_append_at s x t ho base e i z size bytes ht hi hz hsize hby hzs hsz v n xs hs hown ad m cap news hx hn (fun j u hj => (hb.cell (Lib.lt_of_cell (hc j u hj))).trans (hc j u hj)) h1 h63 hbytes hbase (fun v' w' a1 a2 _ => h v' w' a1 a2)
theorem wpList_append_row {P : Program} {w W : World} {ops : Array Oper} {rest : List Oper} {o : Oper} {a : Act} {Q : Exit → Act → World → Prop} (hw : Region.wanted o (yielded ops a.tmps) = true) (s x : Operand) (t : TypeId)
    (ho : o.op = .call { callee := .builtin .append, args := #[s, x], argTypes := #[t, t] })
    (base : Nat) (e : TypeId) (i : TypeInfo) (z : Value) (size bytes : Nat) (ht : P.underlying t = some (.slice e)) (hi : P.info? e = some i) (hz : i.zero = some z)
    (hsize : i.size = size) (hby : i.bytes = bytes) (hzs : z.cells.size = size) (hsz : 0 < size)
    (v : Value) (n : Nat) (xs : List Value) (hs : a.eval s = v) (hown : W.ownsRow base e size v n xs)
    (u : Value) (m : Nat) (news : List Value) (hx : a.eval x = u) (hr : RowIs w size u m news) (hb : Below w.heap.size w W)
    (h63 : n + m ≤ maxLen) (hbytes : (n + m) * bytes ≤ 140737488355328) (hbase : base ≤ W.heap.size)
    (h : ∀ v' w', w'.ownsRow base e size v' (n + m) (xs ++ news) → W.grownBy w' v.ownBlock → wpList P ops Q rest (a.put o.dst v') w') : wpList P ops Q (o :: rest) a W :=
  BigFrame.wpList_want hw fun K hK => wp_append_row s x t ho base e i z size bytes ht hi hz hsize hby hzs hsz v n xs hs hown u m news hx hr hb h63 hbytes hbase (fun v' w' h1 h2 => hK _ _ (h v' w' h1 h2))
theorem grown_trans {a b c : World} {row : Option Nat} (h : a.grownBy b row) (k : b.grownBy c row) : a.grownBy c row :=
  ⟨k.os.trans h.os, k.tape.trans h.tape, k.output.trans h.output, Nat.le_trans h.size k.size, fun i hi hne => (k.block i (Nat.lt_of_lt_of_le hi h.size) hne).trans (h.block i hi hne)⟩
theorem grown_set (w : World) (g j : Nat) (u : Value) : w.grownBy (w.setCell ⟨g, j, none⟩ u) (some g) :=
  ⟨rfl, rfl, rfl, by simp, fun i hi hne => Below.heap_setCell w ⟨g, j, none⟩ u i (fun h => hne (by rw [h]))⟩
theorem Blk.kept {w w' : World} {g : Nat} {t : TypeId} {cs : Array Value} {row : Option Nat} (h : Blk w g t cs) (hg : w.grownBy w' row) (hne : some g ≠ row) : Blk w' g t cs := (hg.block g h.lt hne).trans h
/-- cells stored one behind the other into a block -/
theorem setCells_blk {g : Nat} {t : TypeId} : ∀ (vs : List Value) (o : Nat) (w : World) (cur : Array Value), Blk w g t cur →
    ∃ cur', Blk (w.setCells g o vs) g t cur' ∧ cur'.size = cur.size ∧ (∀ q, q < o → cur'[q]? = cur[q]?) ∧ w.grownBy (w.setCells g o vs) (some g)
  | [], o, w, cur, h => ⟨cur, h, rfl, fun _ _ => rfl, World.grownBy.refl _ _⟩
  | v :: r, o, w, cur, h => by
    obtain ⟨cur', h1, h2, h3, h4⟩ := setCells_blk r (o + 1) (w.setCell ⟨g, o, none⟩ v) _ (h.set_ o v)
    refine ⟨cur', h1, by rw [h2]; simp, fun q hq => ?_, grown_trans (grown_set w g o v) h4⟩
    rw [h3 q (by omega), Array.getElem?_setIfInBounds_ne (by omega)]
theorem run_clear_rows {P : Program} (w : World) (t e ty : TypeId) (z : Value) (s : Nat) (ht : P.underlying t = some (.slice e)) (hv : ∀ w, (zeroValue e).run P w = .ok z w) (hz : z.cells.size = s) (hs : 0 < s) (h1 : ∀ v ∈ z.cells.toList, v.oneCell' = true) (b o n c : Nat) (hn : 0 < n)
    (hc : ∀ j, j < n * s → (w.cell? ⟨b, o + j, none⟩).isSome = true) (hf : ∀ j, j < n * s → w.frozen? ⟨b, o + j, none⟩ = false) :
    (Builtin.clear_ #[t] ty #[.slice (some ⟨b, o, none⟩) n c]).run P w = .ok (.tuple #[]) (w.setCells b o (Builtin.zeroCells z.cells n).toList) := by
  have hlen : (Builtin.zeroCells z.cells n).toList.length = n * s := by simp [Builtin.zeroCells, hz]
  have hmem : ∀ v ∈ (Builtin.zeroCells z.cells n).toList, v.oneCell' = true := by
    intro v hv'
    simp only [Builtin.zeroCells, Array.toList_map, List.mem_map] at hv'
    obtain ⟨i, _, rfl⟩ := hv'
    refine h1 _ ?_
    have hlt : i % z.cells.size < z.cells.size := Nat.mod_lt _ (by omega)
    rw [getElem!_pos z.cells _ hlt]
    exact Array.getElem_mem_toList hlt
  have hst := run_storeCells_cells (P := P) b o (Builtin.zeroCells z.cells n).toList 0 w (by rw [hlen]; simpa using hc) (by rw [hlen]; simpa using hf) hmem
  simp only [Nat.add_zero] at hst
  obtain ⟨m, rfl⟩ : ∃ m, n = m + 1 := ⟨n - 1, by omega⟩
  simp [Builtin.clear_, run_underlying ht, hv, hst]
theorem own_else {w : World} {B : Nat} {e t : TypeId} {s n g : Nat} {v : Value} {xs : List Value} {cs : Array Value} (h : w.ownsRow B e s v n xs) (hg : Blk w g t cs) (het : e ≠ t) : v.ownBlock ≠ some g := by
  rcases h.2 with ⟨rfl, _⟩ | ⟨g', cap, cur, rfl, _, h3, _⟩
  · intro hc; cases hc
  · intro hc
    have hc : g' = g := by injection hc
    subst hc
    unfold Blk at hg
    rw [hg] at h3
    injection h3 with h3
    injection h3 with _ h5
    exact het h5.symm
theorem own_apart {w : World} {B : Nat} {e t : TypeId} {s n g : Nat} {v : Value} {xs : List Value} {cs : Array Value} (h : w.ownsRow B e s v n xs) (hg : Blk w g t cs) (het : e ≠ t) (j : Nat) (u : Value) : (w.setCell ⟨g, j, none⟩ u).ownsRow B e s v n xs := by
  have hne := own_else h hg het
  refine ⟨h.1, ?_⟩
  rcases h.2 with h2 | ⟨g', cap, cur, rfl, h2, h3, h4⟩
  · exact .inl h2
  · have hg' : g' ≠ g := fun hc => hne (by rw [hc]; rfl)
    exact .inr ⟨g', cap, cur, rfl, h2, (Below.heap_setCell w ⟨g, j, none⟩ u g' hg').trans h3, h4⟩
theorem own_own {w : World} {B B' : Nat} {e t : TypeId} {s s' n n' : Nat} {v u : Value} {xs ys : List Value} (h : w.ownsRow B e s v n xs) (hu : w.ownsRow B' t s' u n' ys) (het : e ≠ t) : v.ownBlock = none ∨ v.ownBlock ≠ u.ownBlock := by
  rcases hu.2 with ⟨rfl, _⟩ | ⟨g, cap, cur, rfl, _, hg, _⟩
  · cases hv : v.ownBlock with
    | none => exact .inl rfl
    | some k => exact .inr (by intro hc; cases hc)
  · exact .inr (own_else h hg het)
theorem slice_of_own {w : World} {B : Nat} {e : TypeId} {s n : Nat} {v : Value} {xs : List Value} (h : w.ownsRow B e s v (n + 1) xs) : ∃ g cap, v = .slice (some ⟨g, 0, none⟩) (n + 1) cap := by
  rcases h.2 with ⟨_, h⟩ | ⟨a, b, _, h, _⟩
  · omega
  · exact ⟨a, b, h⟩
/-- F has a body -/
def Enters (F : Nat) : Prop := ∀ (args : Array Value) (w : World), Sem.run Try.prog (callFunc F args) w = .ok (.enter F args) w
theorem enters_of {F : Nat} {fn : Func} {c : Code} (hf : Try.prog.funcs[F]? = some fn) (hn : (fn.name == "runtime.NumGoroutine") = false) (hb : fn.body = some c) : Enters F := fun args w => by
  simp only [beq_eq_false_iff_ne, ne_eq] at hn
  simp [callFunc, go_sem, hf, hn, hb]
theorem below_box (w : World) (o : Obj) : Below w.heap.size w (w.alloc o) := (Below.refl _ _).alloc (Nat.le_refl _) o
end Go.Proofs.Ytpeaajimnggjpaa
