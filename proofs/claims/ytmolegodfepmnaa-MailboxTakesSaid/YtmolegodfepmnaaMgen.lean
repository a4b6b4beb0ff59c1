/- Blocks, and rows of numbers of a call's own that begin anywhere in their block. No function of the program in this text. -/
import Derived.Test.YtmolegodfepmnaaRows
import Derived.Below
import Derived.BigQuiet
import Derived.Deep.QuietTactic
import Derived.Laws.MakeOwn
import Derived.Laws.OwnMore
import Derived.Lib.Hide
import Derived.Lib.SliceRun
import Derived.Maps.AppendAt
import Derived.OpenShut
import Derived.Outline
import Derived.OwnWalk
import Derived.ProofKit
import Derived.WalkKit
import Derived.WalkSmall
import Derived.WalkSpells
import Derived.Sort.Grow
import Derived.ArgAppend
namespace Go.Proofs.Ytmolegodfepmnaa
open Go.ChangeShapes Go.WideShapes Go.ChangeAt Go.RowKit
set_option linter.unusedVariables false

theorem ret_bool {a b : Bool} (h : a = b) : Ending.returned (.bool a) = .returned (.bool b) := by rw [h]
theorem ret_int {k : IntKind} {a b : Int} (h : a = b) : Ending.returned (.int k a) = .returned (.int k b) := by rw [h]
theorem below_drewN {B : Nat} {a w : World} (h : Below B a w) (n : Nat) : Below B a (w.drewN n) := ⟨h.os, h.tape, h.output, h.size, h.block⟩
theorem bcell {W w1 : World} (hb : Below W.heap.size W w1) : (∀ b o, b < W.heap.size → w1.cell? ⟨b, o, none⟩ = W.cell? ⟨b, o, none⟩) ∧ (∀ b o, b < W.heap.size → w1.frozen? ⟨b, o, none⟩ = W.frozen? ⟨b, o, none⟩) :=
  ⟨fun b o h => hb.cell (p := ⟨b, o, none⟩) h, fun b o h => hb.frozen (p := ⟨b, o, none⟩) h⟩
def Blk (w : World) (g : Nat) (t : TypeId) (cs : Array Value) : Prop := w.heap[g]? = some (.cells cs t (0, 0))
theorem Blk.cell {w : World} {g : Nat} {t : TypeId} {cs : Array Value} (h : Blk w g t cs) (i : Nat) : w.cell? ⟨g, i, none⟩ = cs[i]? := cell_of_row w g i cs t (0, 0) h
theorem Blk.frozen {w : World} {g : Nat} {t : TypeId} {cs : Array Value} (h : Blk w g t cs) (i : Nat) : w.frozen? ⟨g, i, none⟩ = false := by
  unfold Blk at h
  simp [World.frozen?, h]
theorem Blk.new (w : World) (t : TypeId) (cs : Array Value) : Blk (w.alloc (.cells cs t)) w.heap.size t cs := heap_alloc_new w _
theorem Blk.below {w w' : World} {g : Nat} {t : TypeId} {cs : Array Value} {B : Nat} (h : Blk w g t cs) (hb : Below B w w') (hg : g < B) : Blk w' g t cs := (hb.block g hg).trans h
theorem Blk.drewN {w : World} {g : Nat} {t : TypeId} {cs : Array Value} (h : Blk w g t cs) (n : Nat) : Blk (w.drewN n) g t cs := h
theorem Blk.set_ {w : World} {g : Nat} {t : TypeId} {cs : Array Value} (h : Blk w g t cs) (i : Nat) (u : Value) : Blk (w.setCell ⟨g, i, none⟩ u) g t (cs.setIfInBounds i u) := by
  unfold Blk at h ⊢
  simp [World.setCell, Array.getElem?_modify, h]
theorem Blk.lt {w : World} {g : Nat} {t : TypeId} {cs : Array Value} (h : Blk w g t cs) : g < w.heap.size := by
  rcases Nat.lt_or_ge g w.heap.size with hlt | hge
  · exact hlt
  · unfold Blk at h; rw [Array.getElem?_eq_none hge] at h; cases h
theorem Blk.alloc {w : World} {g : Nat} {t : TypeId} {cs : Array Value} (h : Blk w g t cs) (o : Obj) : Blk (w.alloc o) g t cs := (Below.heap_alloc w o g h.lt).trans h
theorem Blk.new_at (w : World) (t : TypeId) (cs : Array Value) (g : Nat) (hg : w.heap.size = g) : Blk (w.alloc (.cells cs t)) g t cs := hg ▸ Blk.new w t cs
theorem only_of_below {a w : World} (h : Below a.heap.size a w) (row : Option Nat) : a.grownBy w row := ⟨h.os, h.tape, h.output, h.size, fun i hi _ => h.block i hi⟩
theorem own_below {w w' : World} {base : Nat} {e : TypeId} {size : Nat} {v : Value} {n : Nat} {xs : List Value} (h : w.ownsRow base e size v n xs) (hb : Below w.heap.size w w') : w'.ownsRow base e size v n xs := by
  refine h.kept (only_of_below hb none) ?_
  by_cases hn : v.ownBlock = none
  · exact .inl hn
  · exact .inr hn
theorem Blk.grown {w w' : World} {g : Nat} {t : TypeId} {cs : Array Value} {row : Option Nat} (h : Blk w g t cs) (hg : w.grownBy w' row) (hr : some g ≠ row) : Blk w' g t cs := (hg.block g h.lt hr).trans h
theorem Blk.set_ne {w : World} {g g' : Nat} {t : TypeId} {cs : Array Value} (h : Blk w g t cs) (hne : g ≠ g') (j : Nat) (u : Value) : Blk (w.setCell ⟨g', j, none⟩ u) g t cs := (Below.heap_setCell w ⟨g', j, none⟩ u g hne).trans h
def intVals (xs : List Int) : List Value := xs.map fun x => .int .i64 x
theorem intVals_len (xs : List Int) : (intVals xs).length = xs.length := by simp [intVals]
theorem intVals_app (xs ys : List Int) : intVals (xs ++ ys) = intVals xs ++ intVals ys := by simp [intVals]
theorem int_one (x : Int) : ∀ u ∈ [Value.int .i64 x], u.oneCell' = true := by
  intro u hu
  obtain rfl := List.mem_singleton.1 hu
  rfl
def InAt (w : World) (B : Nat) (e : TypeId) (v : Value) (L : List Int) : Prop :=
  (v = .slice none 0 0 ∧ L = []) ∨ ∃ g o cap cur, v = .slice (some ⟨g, o, none⟩) L.length cap ∧ B ≤ g ∧ Blk w g e cur ∧ L.length ≤ cap ∧ o + cap ≤ cur.size ∧ (cur.toList.drop o).take L.length = intVals L
theorem InAt.of_own {w : World} {B : Nat} {e : TypeId} {v : Value} {n : Nat} {L : List Int} (h : w.ownsRow B e 1 v n (intVals L)) : InAt w B e v L := by
  have hn : n = L.length := by
    have := h.1
    unfold intVals at this
    rw [List.length_map] at this
    omega
  subst hn
  rcases h.2 with ⟨hv, h0⟩ | ⟨g, cap, cur, hv, hb, hg, hnc, _, hs, ht⟩
  · exact .inl ⟨hv, List.eq_nil_of_length_eq_zero h0⟩
  · exact .inr ⟨g, 0, cap, cur, hv, hb, hg, hnc, by omega, by simpa using ht⟩
theorem InAt.cell {w : World} {g o m n cap : Nat} {e : TypeId} {cur : Array Value} {xs : List Value} (hg : Blk w g e cur) (h : (cur.toList.drop o).take n = xs) {j : Nat} {u : Value} (hj : xs[j]? = some u) : w.cell? ⟨g, o + j, none⟩ = some u := by
  rw [hg.cell]
  rw [← h, List.getElem?_take] at hj
  split at hj
  · rw [List.getElem?_drop] at hj
    simpa using hj
  · cases hj
theorem InAt.slice {w : World} {B : Nat} {e : TypeId} {v : Value} {L : List Int} (h : InAt w B e v L) : ∃ A cap, v = .slice A L.length cap := by
  rcases h with ⟨rfl, rfl⟩ | ⟨g, o, cap, cur, rfl, _⟩
  · exact ⟨none, 0, rfl⟩
  · exact ⟨_, _, rfl⟩
theorem InAt.lt {w : World} {B : Nat} {e : TypeId} {v : Value} {L : List Int} (h : InAt w B e v L) : ∀ k, v.ownBlock = some k → B ≤ k ∧ k < w.heap.size := by
  intro k hk
  rcases h with ⟨rfl, rfl⟩ | ⟨g, o, cap, cur, rfl, hb, hg, _⟩
  · cases hk
  · injection hk with hk
    subst hk
    exact ⟨hb, hg.lt⟩
theorem InAt.base {w : World} {B B' : Nat} {e : TypeId} {v : Value} {L : List Int} (h : InAt w B e v L) (hB : B' ≤ B) : InAt w B' e v L := by
  rcases h with h | ⟨g, o, cap, cur, h1, hb, h2⟩
  · exact .inl h
  · exact .inr ⟨g, o, cap, cur, h1, Nat.le_trans hB hb, h2⟩
theorem InAt.else_ {w : World} {B : Nat} {e t : TypeId} {g : Nat} {v : Value} {L : List Int} {cs : Array Value} (h : InAt w B e v L) (hg : Blk w g t cs) (het : e ≠ t) : v.ownBlock ≠ some g := by
  intro hc
  rcases h with ⟨rfl, rfl⟩ | ⟨g', o, cap, cur, rfl, hb, hg', _⟩
  · cases hc
  · injection hc with hc
    have hc : g' = g := hc
    subst hc
    unfold Blk at hg hg'
    rw [hg] at hg'
    injection hg' with h1
    injection h1 with h2 h3
    exact het h3.symm
theorem InAt.kept {w w' : World} {B : Nat} {e : TypeId} {row : Option Nat} {v : Value} {L : List Int} (h : InAt w B e v L) (hg : w.grownBy w' row) (hne : v.ownBlock = none ∨ v.ownBlock ≠ row) : InAt w' B e v L := by
  rcases h with h | ⟨g, o, cap, cur, rfl, hb, hgg, rest⟩
  · exact .inl h
  · refine .inr ⟨g, o, cap, cur, rfl, hb, hgg.grown hg ?_, rest⟩
    rcases hne with h | h
    · cases h
    · exact h
theorem InAt.below {w w' : World} {B : Nat} {e : TypeId} {v : Value} {L : List Int} (h : InAt w B e v L) (hb : Below w.heap.size w w') : InAt w' B e v L := by
  rcases h with h | ⟨g, o, cap, cur, rfl, hb1, hgg, rest⟩
  · exact .inl h
  · exact .inr ⟨g, o, cap, cur, rfl, hb1, hgg.below hb hgg.lt, rest⟩
theorem InAt.apart {w : World} {B : Nat} {e t : TypeId} {g : Nat} {v : Value} {L : List Int} {cs : Array Value} (h : InAt w B e v L) (hg : Blk w g t cs) (het : e ≠ t) (j : Nat) (u : Value) : InAt (w.setCell ⟨g, j, none⟩ u) B e v L := by
  have hne := h.else_ hg het
  rcases h with h | ⟨g', o, cap, cur, rfl, hb1, hgg, rest⟩
  · exact .inl h
  · exact .inr ⟨g', o, cap, cur, rfl, hb1, hgg.set_ne (fun hc => hne (by rw [← hc]; rfl)) j u, rest⟩
theorem InAt.tail {w : World} {B : Nat} {e : TypeId} {x : Int} {g o cap : Nat} {L : List Int} (h : InAt w B e (.slice (some ⟨g, o, none⟩) (L.length + 1) cap) (x :: L)) :
    w.cell? ⟨g, o, none⟩ = some (.int .i64 x) ∧ 0 < cap ∧ InAt w B e (.slice (some ⟨g, if cap = 1 then o else o + 1, none⟩) L.length (cap - 1)) L := by
  rcases h with ⟨hv, hL⟩ | ⟨g', o', cap', cur, hv, hb, hg, hnc, hs, ht⟩
  · cases hL
  · injection hv with h1 h2 h3
    injection h1 with h1
    injection h1 with h4 h5 h6
    subst h4 h5 h3
    rw [List.length_cons] at hnc ht
    have h0 : w.cell? ⟨g, o + 0, none⟩ = some (.int .i64 x) := InAt.cell (m := 0) (cap := 0) hg ht rfl
    refine ⟨h0, by omega, .inr ⟨g, _, cap - 1, cur, rfl, hb, hg, by omega, ?_, ?_⟩⟩
    · split <;> omega
    · by_cases h1 : cap = 1
      · obtain rfl : L = [] := List.eq_nil_of_length_eq_zero (by omega)
        rfl
      · rw [if_neg h1]
        have h7 : intVals (x :: L) = .int .i64 x :: intVals L := rfl
        rw [h7] at ht
        have h8 : (cur.toList.drop o) = .int .i64 x :: cur.toList.drop (o + 1) := by
          have hlt : o < cur.toList.length := by rw [Array.length_toList]; omega
          rw [List.drop_eq_getElem_cons hlt] at ht ⊢
          rw [List.take_succ_cons] at ht
          injection ht with h9 h10
          rw [h9]
        rw [h8, List.take_succ_cons] at ht
        injection ht
section
variable {P : Program}
theorem run_append_in (w : World) (t ty : TypeId) (B : Nat) (e : TypeId) (i : TypeInfo) (z : Value) (bytes : Nat) (ht : P.underlying t = some (.slice e)) (hi : P.info? e = some i) (hz : i.zero = some z)
    (hsize : i.size = 1) (hby : i.bytes = bytes) (hzs : z.cells.size = 1) (v : Value) (L : List Int) (hown : InAt w B e v L)
    (ad : Addr) (c : Nat) (x : Int) (hnew : w.cell? ad = some (.int .i64 x)) (h63 : L.length + 1 ≤ maxLen) (hbytes : (L.length + 1) * bytes ≤ 140737488355328) (hB : B ≤ w.heap.size) :
    ∃ v' w', (Builtin.append_ #[t, t] ty #[v, .slice (some ad) 1 c]).run P w = .ok v' w' ∧ InAt w' B e v' (L ++ [x]) ∧ w.grownBy w' v.ownBlock ∧ ∀ k, v'.ownBlock = some k → v.ownBlock = some k ∨ w.heap.size ≤ k := by
  have hiv : intVals (L ++ [x]) = intVals L ++ [.int .i64 x] := by unfold intVals; rw [List.map_append]; rfl
  have hnews : ∀ j u, [Value.int .i64 x][j]? = some u → w.cell? (ad.add j) = some u := fun j u hj => by
    cases j with
    | zero =>
      simp only [List.getElem?_cons_zero, Option.some.injEq] at hj
      subst hj
      have : ad.add 0 = ad := by unfold Addr.add; simp
      rw [this, hnew]
    | succ j => simp at hj
  have hlv : (intVals L).length = L.length := by unfold intVals; exact List.length_map _
  rcases hown with ⟨rfl, rfl⟩ | ⟨g, o, cap, cur, rfl, hb, hg, hnc, hs, htk⟩
  · obtain ⟨v', w', h1, h2, h3, -⟩ := run_append_own (P := P) w w.heap.size t ty e i z 1 bytes ht hi hz hsize hby hzs (by decide) (.slice none 0 0) 0 [] (World.ownsRow_nil w _ e 1) ad 1 c [.int .i64 x] rfl hnews (fun u hu => by rw [List.mem_singleton] at hu; subst hu; rfl) h63 hbytes (Nat.le_refl _)
    exact ⟨v', w', h1, (InAt.of_own (n := 0 + 1) h2).base hB, h3, fun k hk => .inr (h2.lt k hk).1⟩
  · by_cases hr : L.length + 1 ≤ cap
    · have hrun := run_append_room_cells (P := P) w t ty e i ht hi g o L.length cap ad 1 c [.int .i64 x] (by rw [hsize]; rfl) hnews (fun u hu => by rw [List.mem_singleton] at hu; subst hu; rfl) hr (fun j hj => by
          have hj : j = 0 := by simpa using hj
          subst hj
          rw [hg.cell, hsize]
          rw [Array.getElem?_eq_getElem (by omega)]
          rfl) (fun j hj => hg.frozen _)
      refine ⟨_, _, hrun, ?_, ?_, fun k hk => .inl hk⟩
      · refine .inr ⟨g, o, cap, cur.setIfInBounds (o + L.length * i.size) (.int .i64 x), by rw [List.length_append]; rfl, hb, ?_, by rw [List.length_append]; exact hr, by rw [Array.size_setIfInBounds]; exact hs, ?_⟩
        · exact hg.set_ _ _
        · rw [hsize, Nat.mul_one, List.length_append, hiv, Array.toList_setIfInBounds]
          have hcs : cur.toList.length = cur.size := Array.length_toList
          have hlt : o + L.length < cur.toList.length := by clear hbytes; omega
          refine List.ext_getElem? fun j => ?_
          rw [List.length_singleton, List.getElem?_take]
          by_cases hj : j < L.length + 1
          · rw [if_pos hj, List.getElem?_drop]
            by_cases hj2 : j = L.length
            · subst hj2
              rw [List.getElem?_set_self hlt, List.getElem?_append_right (by omega), hlv, Nat.sub_self]
              rfl
            · rw [List.getElem?_set_ne (by omega), List.getElem?_append_left (by omega), ← htk, List.getElem?_take, if_pos (by omega), List.getElem?_drop]
          · rw [if_neg hj, List.getElem?_eq_none (by rw [List.length_append, hlv, List.length_singleton]; omega)]
      · refine ⟨rfl, rfl, rfl, by simp [World.setCells], fun k _ hk => ?_⟩
        exact Below.heap_setCell w ⟨g, _, none⟩ _ k (fun hc => hk (by rw [hc]; rfl))
    · obtain ⟨v', w', h1, h2, h3⟩ := run_append_arg_grows (P := P) w t ty e i z 1 bytes ht hi hz hsize hby hzs (by decide) ⟨g, o, none⟩ L.length cap (intVals L) (by rw [hlv]; omega) (fun j u hj => by rw [Addr.add_lit]; exact InAt.cell (m := 0) (cap := 0) hg htk hj) ad 1 c [.int .i64 x] rfl hnews (by omega) h63 hbytes
      rw [← hiv] at h2
      exact ⟨v', w', h1, (InAt.of_own h2).base hB, ⟨h3.os, h3.tape, h3.output, h3.size, fun k hk _ => h3.block k hk (by simp)⟩, fun k hk => .inr (h2.lt k hk).1⟩
theorem wp_append_in {W : World} {o : Oper} {a : Act} {K : Act → World → Prop} {Q : Exit → Act → World → Prop} (s x : Operand) (t : TypeId)
    (ho : o.op = .call { callee := .builtin .append, args := #[s, x], argTypes := #[t, t] })
    (B : Nat) (e : TypeId) (i : TypeInfo) (z : Value) (bytes : Nat) (ht : P.underlying t = some (.slice e)) (hi : P.info? e = some i) (hz : i.zero = some z)
    (hsize : i.size = 1) (hby : i.bytes = bytes) (hzs : z.cells.size = 1) (v : Value) (L : List Int) (hs : a.eval s = v) (hown : InAt W B e v L)
    (ad : Addr) (c : Nat) (y : Int) (hx : a.eval x = .slice (some ad) 1 c) (hnew : W.cell? ad = some (.int .i64 y)) (h63 : L.length + 1 ≤ maxLen) (hbytes : (L.length + 1) * bytes ≤ 140737488355328) (hB : B ≤ W.heap.size)
    (h : ∀ v' w', InAt w' B e v' (L ++ [y]) → W.grownBy w' v.ownBlock → (∀ k, v'.ownBlock = some k → v.ownBlock = some k ∨ W.heap.size ≤ k) → K (a.put o.dst v') w') : o.wp P a W K Q := by
  obtain ⟨v', w', hrun, h1, h2, h3⟩ := run_append_in (P := P) W t o.type B e i z bytes ht hi hz hsize hby hzs v L hown ad c y hnew h63 hbytes hB
  unfold Oper.wp execOp
  simp only [ho, resolve, invoke, builtin, Sem.run_bind, Sem.run_pure, Result.andThen_ok, List.map_toArray, List.map_cons, List.map_nil, hs, hx, hrun]
  exact h v' w' h1 h2 h3
theorem wpList_append_in {W : World} {ops : Array Oper} {rest : List Oper} {o : Oper} {a : Act} {Q : Exit → Act → World → Prop} (hw : Region.wanted o (yielded ops a.tmps) = true) (s x : Operand) (t : TypeId)
    (ho : o.op = .call { callee := .builtin .append, args := #[s, x], argTypes := #[t, t] })
    (B : Nat) (e : TypeId) (i : TypeInfo) (z : Value) (bytes : Nat) (ht : P.underlying t = some (.slice e)) (hi : P.info? e = some i) (hz : i.zero = some z)
    (hsize : i.size = 1) (hby : i.bytes = bytes) (hzs : z.cells.size = 1) (v : Value) (L : List Int) (hs : a.eval s = v) (hown : InAt W B e v L)
    (ad : Addr) (c : Nat) (y : Int) (hx : a.eval x = .slice (some ad) 1 c) (hnew : W.cell? ad = some (.int .i64 y)) (h63 : L.length + 1 ≤ maxLen) (hbytes : (L.length + 1) * bytes ≤ 140737488355328) (hB : B ≤ W.heap.size)
    (h : ∀ v' w', InAt w' B e v' (L ++ [y]) → W.grownBy w' v.ownBlock → (∀ k, v'.ownBlock = some k → v.ownBlock = some k ∨ W.heap.size ≤ k) → wpList P ops Q rest (a.put o.dst v') w') : wpList P ops Q (o :: rest) a W :=
  BigFrame.wpList_want hw fun K hK => wp_append_in s x t ho B e i z bytes ht hi hz hsize hby hzs v L hs hown ad c y hx hnew h63 hbytes hB fun v' w' h1 h2 h3 => hK _ _ (h v' w' h1 h2 h3)
end
end Go.Proofs.Ytmolegodfepmnaa
