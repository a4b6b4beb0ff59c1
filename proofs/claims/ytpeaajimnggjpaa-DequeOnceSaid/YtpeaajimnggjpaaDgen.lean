/- Rows of values of a call's own that begin anywhere in their block. No function of the program in this text. -/
import Derived.Test.YtpeaajimnggjpaaYgen
import Derived.Test.YtpeaajimnggjpaaYdrw
import Derived.Sort.WalkB12
import Derived.Lib.SlicesDelete
namespace Go.Proofs.Ytpeaajimnggjpaa
open Go.ChangeShapes Go.WideShapes Go.ChangeAt Go.RowKit
set_option linter.unusedVariables false

structure KB (O : Nat → Prop) (w w' : World) : Prop where
  os : w'.os = w.os
  tape : w'.tape = w.tape
  output : w'.output = w.output
  size : w.heap.size ≤ w'.heap.size
  block : ∀ b, b < w.heap.size → ¬ O b → w'.heap[b]? = w.heap[b]?
theorem KB.refl (O : Nat → Prop) (w : World) : KB O w w := ⟨rfl, rfl, rfl, Nat.le_refl _, fun _ _ _ => rfl⟩
theorem KB.trans {O : Nat → Prop} {a b c : World} (h : KB O a b) (k : KB O b c) : KB O a c :=
  ⟨k.os.trans h.os, k.tape.trans h.tape, k.output.trans h.output, Nat.le_trans h.size k.size, fun i hi ho => (k.block i (Nat.lt_of_lt_of_le hi h.size) ho).trans (h.block i hi ho)⟩
theorem KB.of_grown {O : Nat → Prop} {w w' : World} {row : Option Nat} (h : w.grownBy w' row) (hr : ∀ b, row = some b → O b) : KB O w w' :=
  ⟨h.os, h.tape, h.output, h.size, fun b hb ho => h.block b hb (fun e => ho (hr b e.symm))⟩
theorem KB.of_below {O : Nat → Prop} {w w' : World} (h : Below w.heap.size w w') : KB O w w' := ⟨h.os, h.tape, h.output, h.size, fun b hb _ => h.block b hb⟩
theorem KB.wide {O O' : Nat → Prop} {w w' : World} (h : KB O w w') (ho : ∀ b, b < w.heap.size → O b → O' b) : KB O' w w' := ⟨h.os, h.tape, h.output, h.size, fun b hb hn => h.block b hb (fun hc => hn (ho b hb hc))⟩
theorem Blk.kb {O : Nat → Prop} {w w' : World} {g : Nat} {t : TypeId} {cs : Array Value} (h : Blk w g t cs) (hk : KB O w w') (hg : ¬ O g) : Blk w' g t cs := (hk.block g h.lt hg).trans h
theorem below_kb {O : Nat → Prop} {a w w' : World} (h : Below a.heap.size a w) (hk : KB O w w') (ho : ∀ b, O b → a.heap.size ≤ b) : Below a.heap.size a w' :=
  ⟨hk.os.trans h.os, hk.tape.trans h.tape, hk.output.trans h.output, Nat.le_trans h.size hk.size, fun k hlt => (hk.block k (Nat.lt_of_lt_of_le hlt h.size) (fun e => by have := ho k e; omega)).trans (h.block k hlt)⟩

/-- a row of values in a block from B on, of type e, wherever it begins there -/
def InV (w : World) (B : Nat) (e : TypeId) (v : Value) (L : List Value) : Prop :=
  (v = .slice none 0 0 ∧ L = []) ∨ ∃ g o cap cur, v = .slice (some ⟨g, o, none⟩) L.length cap ∧ B ≤ g ∧ Blk w g e cur ∧ L.length ≤ cap ∧ o + cap ≤ cur.size ∧ (cur.toList.drop o).take L.length = L
theorem InV.nil (w : World) (B : Nat) (e : TypeId) : InV w B e (.slice none 0 0) [] := .inl ⟨rfl, rfl⟩
theorem InV.of_own {w : World} {B : Nat} {e : TypeId} {v : Value} {n : Nat} {L : List Value} (h : w.ownsRow B e 1 v n L) : InV w B e v L := by
  have hn : n = L.length := by have := h.1; omega
  subst hn
  rcases h.2 with ⟨hv, h0⟩ | ⟨g, cap, cur, hv, hb, hg, hnc, _, hs, ht⟩
  · exact .inl ⟨hv, List.eq_nil_of_length_eq_zero h0⟩
  · exact .inr ⟨g, 0, cap, cur, hv, hb, hg, hnc, by omega, by simpa using ht⟩
theorem InV.slice {w : World} {B : Nat} {e : TypeId} {v : Value} {L : List Value} (h : InV w B e v L) : ∃ A cap, v = .slice A L.length cap := by
  rcases h with ⟨rfl, rfl⟩ | ⟨g, o, cap, cur, rfl, _⟩
  · exact ⟨none, 0, rfl⟩
  · exact ⟨_, _, rfl⟩
theorem InV.lt {w : World} {B : Nat} {e : TypeId} {v : Value} {L : List Value} (h : InV w B e v L) : ∀ k, v.ownBlock = some k → B ≤ k ∧ k < w.heap.size := by
  intro k hk
  rcases h with ⟨rfl, rfl⟩ | ⟨g, o, cap, cur, rfl, hb, hg, _⟩
  · cases hk
  · injection hk with hk
    subst hk
    exact ⟨hb, hg.lt⟩
theorem InV.base {w : World} {B B' : Nat} {e : TypeId} {v : Value} {L : List Value} (h : InV w B e v L) (hB : B' ≤ B) : InV w B' e v L := by
  rcases h with h | ⟨g, o, cap, cur, h1, hb, h2⟩
  · exact .inl h
  · exact .inr ⟨g, o, cap, cur, h1, Nat.le_trans hB hb, h2⟩
theorem InV.else_ {w : World} {B : Nat} {e t : TypeId} {g : Nat} {v : Value} {L : List Value} {cs : Array Value} (h : InV w B e v L) (hg : Blk w g t cs) (het : e ≠ t) : v.ownBlock ≠ some g := by
  intro hc
  rcases h with ⟨rfl, rfl⟩ | ⟨g', o, cap, cur, rfl, hb, hg', _⟩
  · cases hc
  · injection hc with hc
    have hc : g' = g := hc
    subst hc
    unfold Blk at hg hg'
    rw [hg] at hg'
    injection hg' with h1
    injection h1 with h2 h3
    exact het h3.symm
theorem InV.kb {O : Nat → Prop} {w w' : World} {B : Nat} {e : TypeId} {v : Value} {L : List Value} (h : InV w B e v L) (hk : KB O w w') (hne : ∀ b, v.ownBlock = some b → ¬ O b) : InV w' B e v L := by
  rcases h with h | ⟨g, o, cap, cur, rfl, hb, hgg, rest⟩
  · exact .inl h
  · exact .inr ⟨g, o, cap, cur, rfl, hb, hgg.kb hk (hne g rfl), rest⟩
theorem InV.below {w w' : World} {B : Nat} {e : TypeId} {v : Value} {L : List Value} (h : InV w B e v L) (hb : Below w.heap.size w w') : InV w' B e v L := by
  rcases h with h | ⟨g, o, cap, cur, rfl, hb1, hgg, rest⟩
  · exact .inl h
  · exact .inr ⟨g, o, cap, cur, rfl, hb1, hgg.below hb hgg.lt, rest⟩
theorem InV.apart {w : World} {B : Nat} {e t : TypeId} {g : Nat} {v : Value} {L : List Value} {cs : Array Value} (h : InV w B e v L) (hg : Blk w g t cs) (het : e ≠ t) (j : Nat) (u : Value) : InV (w.setCell ⟨g, j, none⟩ u) B e v L := by
  have hne := h.else_ hg het
  rcases h with h | ⟨g', o, cap, cur, rfl, hb1, hgg, rest⟩
  · exact .inl h
  · exact .inr ⟨g', o, cap, cur, rfl, hb1, hgg.set_ne (fun hc => hne (by rw [← hc]; rfl)) j u, rest⟩
/-- the cells of a row -/
theorem cut_cell {g o n : Nat} {w : World} {e : TypeId} {cur : Array Value} {xs : List Value} (hg : Blk w g e cur) (h : (cur.toList.drop o).take n = xs) {j : Nat} {u : Value} (hj : xs[j]? = some u) : w.cell? ⟨g, o + j, none⟩ = some u := by
  rw [hg.cell]
  rw [← h, List.getElem?_take] at hj
  split at hj
  · rw [List.getElem?_drop] at hj
    simpa using hj
  · cases hj
theorem InV.open_ {w : World} {B : Nat} {e : TypeId} {A : Option Addr} {n cap : Nat} {x : Value} {L : List Value} (h : InV w B e (.slice A n cap) (x :: L)) :
    ∃ g o, A = some ⟨g, o, none⟩ ∧ n = L.length + 1 ∧ B ≤ g ∧ L.length + 1 ≤ cap ∧ (∃ cur, Blk w g e cur ∧ o + cap ≤ cur.size ∧ (cur.toList.drop o).take (L.length + 1) = x :: L) := by
  rcases h with ⟨hv, hL⟩ | ⟨g', o', cap', cur, hv, hb, hg, hnc, hs, ht⟩
  · cases hL
  · injection hv with h1 h2 h3
    subst h3
    exact ⟨g', o', h1, h2, hb, hnc, cur, hg, hs, ht⟩
theorem take_set_ne {cur : List Value} {o n : Nat} {L K : List Value} (h : (cur.drop o).take n = L) (k : Nat) (u : Value) (hk : K.length ≤ k) (m : Nat) (hm : L = K ++ L.drop K.length) (hn : K.length ≤ n) : ((cur.set (o + k) u).drop o).take K.length = K := by
  refine List.ext_getElem? fun j => ?_
  rw [List.getElem?_take]
  by_cases hj : j < K.length
  · rw [if_pos hj, List.getElem?_drop, List.getElem?_set_ne (by omega)]
    have h1 : ((cur.drop o).take n)[j]? = L[j]? := by rw [h]
    rw [List.getElem?_take, if_pos (by omega), List.getElem?_drop] at h1
    rw [h1, hm, List.getElem?_append_left hj]
  · rw [if_neg hj, List.getElem?_eq_none (by omega)]
/-- without its last one, whose place was cleared -/
theorem InV.pop {w : World} {B : Nat} {e : TypeId} {g o cap : Nat} {x : Value} {K : List Value} (h : InV w B e (.slice (some ⟨g, o, none⟩) (K.length + 1) cap) (K ++ [x])) (u : Value) :
    InV (w.setCell ⟨g, o + K.length, none⟩ u) B e (.slice (some ⟨g, o, none⟩) K.length cap) K := by
  rcases h with ⟨hv, hL⟩ | ⟨g', o', cap', cur, hv, hb, hg, hnc, hs, ht⟩
  · cases hv
  · injection hv with h1 h2 h3
    injection h1 with h1
    injection h1 with h4 h5 h6
    subst h4; subst h5; subst h3
    rw [List.length_append, List.length_singleton] at hnc ht
    refine .inr ⟨g, o, cap, _, rfl, hb, hg.set_ _ _, by omega, by rw [Array.size_setIfInBounds]; exact hs, ?_⟩
    rw [Array.toList_setIfInBounds]
    exact take_set_ne ht _ u (Nat.le_refl _) 0 (by rw [List.drop_left]) (by omega)
/-- without its last one -/
theorem InV.cut {w : World} {B : Nat} {e : TypeId} {g o cap : Nat} {x : Value} {K : List Value} (h : InV w B e (.slice (some ⟨g, o, none⟩) (K.length + 1) cap) (K ++ [x])) :
    InV w B e (.slice (some ⟨g, o, none⟩) K.length cap) K := by
  rcases h with ⟨hv, hL⟩ | ⟨g', o', cap', cur, hv, hb, hg, hnc, hs, ht⟩
  · cases hv
  · injection hv with h1 h2 h3
    injection h1 with h1
    injection h1 with h4 h5 h6
    subst h4; subst h5; subst h3
    rw [List.length_append, List.length_singleton] at hnc ht
    refine .inr ⟨g, o, cap, _, rfl, hb, hg, by omega, hs, ?_⟩
    have h7 : ((cur.toList.drop o).take (K.length + 1)).take K.length = (K ++ [x]).take K.length := by rw [ht]
    rw [List.take_take, Nat.min_eq_left (by omega), List.take_left] at h7
    exact h7
/-- without its first one -/
theorem InV.tail {w : World} {B : Nat} {e : TypeId} {x : Value} {g o cap : Nat} {L : List Value} (h : InV w B e (.slice (some ⟨g, o, none⟩) (L.length + 1) cap) (x :: L)) :
    InV w B e (.slice (some ⟨g, if cap = 1 then o else o + 1, none⟩) L.length (cap - 1)) L := by
  rcases h with ⟨hv, hL⟩ | ⟨g', o', cap', cur, hv, hb, hg, hnc, hs, ht⟩
  · cases hL
  · injection hv with h1 h2 h3
    injection h1 with h1
    injection h1 with h4 h5 h6
    subst h4; subst h5; subst h3
    rw [List.length_cons] at hnc ht
    refine .inr ⟨g, _, cap - 1, cur, rfl, hb, hg, by omega, ?_, ?_⟩
    · split <;> omega
    · by_cases h1 : cap = 1
      · obtain rfl : L = [] := List.eq_nil_of_length_eq_zero (by omega)
        rfl
      · rw [if_neg h1]
        have h8 : ((cur.toList.drop o).take (L.length + 1)).drop 1 = L := by rw [ht]; rfl
        rw [List.drop_take, List.drop_drop] at h8
        simpa using h8
/-- its first place is cleared -/
theorem InV.clr {w : World} {B : Nat} {e : TypeId} {x : Value} {g o n cap : Nat} {L : List Value} (h : InV w B e (.slice (some ⟨g, o, none⟩) n cap) (x :: L)) (u : Value) : InV (w.setCell ⟨g, o, none⟩ u) B e (.slice (some ⟨g, o, none⟩) n cap) (u :: L) := by
  rcases h with ⟨hv, hL⟩ | ⟨g', o', cap', cur, hv, hb, hg, hnc, hs, ht⟩
  · cases hL
  · injection hv with h1 h2 h3
    injection h1 with h1
    injection h1 with h4 h5 h6
    subst h4; subst h5; subst h3
    rw [List.length_cons] at hnc ht h2
    refine .inr ⟨g, o, cap, _, by rw [h2]; rfl, hb, hg.set_ _ _, hnc, by rw [Array.size_setIfInBounds]; exact hs, ?_⟩
    rw [Array.toList_setIfInBounds, List.length_cons]
    have hlt : o < cur.toList.length := by rw [Array.length_toList]; omega
    refine List.ext_getElem? fun j => ?_
    rw [List.getElem?_take]
    by_cases hj : j < L.length + 1
    · rw [if_pos hj, List.getElem?_drop]
      cases j with
      | zero => rw [Nat.add_zero, List.getElem?_set_self hlt]; rfl
      | succ j =>
        rw [List.getElem?_set_ne (by omega)]
        have h7 : ((cur.toList.drop o).take (L.length + 1))[j + 1]? = (x :: L)[j + 1]? := by rw [ht]
        rw [List.getElem?_take, if_pos hj, List.getElem?_drop] at h7
        rw [h7]
        rfl
    · rw [if_neg hj, List.getElem?_eq_none (by simp; omega)]
section
variable {P : Program}
theorem run_append_inV (w : World) (t ty : TypeId) (B : Nat) (e : TypeId) (i : TypeInfo) (z : Value) (bytes : Nat) (ht : P.underlying t = some (.slice e)) (hi : P.info? e = some i) (hz : i.zero = some z)
    (hsize : i.size = 1) (hby : i.bytes = bytes) (hzs : z.cells.size = 1) (v : Value) (L : List Value) (hown : InV w B e v L)
    (ad : Addr) (c : Nat) (x : Value) (h1 : x.oneCell' = true) (hnew : w.cell? ad = some x) (h63 : L.length + 1 ≤ maxLen) (hbytes : (L.length + 1) * bytes ≤ 140737488355328) (hB : B ≤ w.heap.size) :
    ∃ v' w', (Builtin.append_ #[t, t] ty #[v, .slice (some ad) 1 c]).run P w = .ok v' w' ∧ InV w' B e v' (L ++ [x]) ∧ w.grownBy w' v.ownBlock ∧ ∀ k, v'.ownBlock = some k → v.ownBlock = some k ∨ w.heap.size ≤ k := by
  have hnews : ∀ j u, [x][j]? = some u → w.cell? (ad.add j) = some u := fun j u hj => by
    cases j with
    | zero =>
      simp only [List.getElem?_cons_zero, Option.some.injEq] at hj
      subst hj
      have : ad.add 0 = ad := by unfold Addr.add; simp
      rw [this, hnew]
    | succ j => simp at hj
  have h1s : ∀ u ∈ [x], u.oneCell' = true := fun u hu => by rw [List.mem_singleton] at hu; rw [hu]; exact h1
  rcases hown with ⟨rfl, rfl⟩ | ⟨g, o, cap, cur, rfl, hb, hg, hnc, hs, htk⟩
  · obtain ⟨v', w', h1, h2, h3, -⟩ := run_append_own (P := P) w w.heap.size t ty e i z 1 bytes ht hi hz hsize hby hzs (by decide) (.slice none 0 0) 0 [] (World.ownsRow_nil w _ e 1) ad 1 c [x] rfl hnews h1s h63 hbytes (Nat.le_refl _)
    exact ⟨v', w', h1, (InV.of_own (n := 0 + 1) h2).base hB, h3, fun k hk => .inr (h2.lt k hk).1⟩
  · by_cases hr : L.length + 1 ≤ cap
    · have hrun := run_append_room_cells (P := P) w t ty e i ht hi g o L.length cap ad 1 c [x] (by rw [hsize]; rfl) hnews h1s hr (fun j hj => by
          have hj : j = 0 := by simpa using hj
          subst hj
          rw [hg.cell, hsize]
          rw [Array.getElem?_eq_getElem (by omega)]
          rfl) (fun j hj => hg.frozen _)
      refine ⟨_, _, hrun, ?_, ?_, fun k hk => .inl hk⟩
      · refine .inr ⟨g, o, cap, cur.setIfInBounds (o + L.length * i.size) x, by rw [List.length_append]; rfl, hb, ?_, by rw [List.length_append]; exact hr, by rw [Array.size_setIfInBounds]; exact hs, ?_⟩
        · exact hg.set_ _ _
        · rw [hsize, Nat.mul_one, List.length_append, Array.toList_setIfInBounds]
          have hcs : cur.toList.length = cur.size := Array.length_toList
          have hlt : o + L.length < cur.toList.length := by clear hbytes; omega
          refine List.ext_getElem? fun j => ?_
          rw [List.length_singleton, List.getElem?_take]
          by_cases hj : j < L.length + 1
          · rw [if_pos hj, List.getElem?_drop]
            by_cases hj2 : j = L.length
            · subst hj2
              rw [List.getElem?_set_self hlt, List.getElem?_append_right (by omega), Nat.sub_self]
              rfl
            · rw [List.getElem?_set_ne (by omega), List.getElem?_append_left (by omega)]
              have h7 : ((cur.toList.drop o).take L.length)[j]? = L[j]? := by rw [htk]
              rw [List.getElem?_take, if_pos (by omega), List.getElem?_drop] at h7
              exact h7
          · rw [if_neg hj, List.getElem?_eq_none (by rw [List.length_append, List.length_singleton]; omega)]
      · refine ⟨rfl, rfl, rfl, by simp [World.setCells], fun k _ hk => ?_⟩
        exact Below.heap_setCell w ⟨g, _, none⟩ _ k (fun hc => hk (by rw [hc]; rfl))
    · obtain ⟨v', w', h1, h2, h3⟩ := run_append_arg_grows (P := P) w t ty e i z 1 bytes ht hi hz hsize hby hzs (by decide) ⟨g, o, none⟩ L.length cap L (by omega) (fun j u hj => by rw [Addr.add_lit]; exact cut_cell hg htk hj) ad 1 c [x] rfl hnews (by omega) h63 hbytes
      exact ⟨v', w', h1, (InV.of_own h2).base hB, ⟨h3.os, h3.tape, h3.output, h3.size, fun k hk _ => h3.block k hk (by simp)⟩, fun k hk => .inr (h2.lt k hk).1⟩
theorem wp_append_inV {W : World} {o : Oper} {a : Act} {K : Act → World → Prop} {Q : Exit → Act → World → Prop} (s x : Operand) (t : TypeId)
    (ho : o.op = .call { callee := .builtin .append, args := #[s, x], argTypes := #[t, t] })
    (B : Nat) (e : TypeId) (i : TypeInfo) (z : Value) (bytes : Nat) (ht : P.underlying t = some (.slice e)) (hi : P.info? e = some i) (hz : i.zero = some z)
    (hsize : i.size = 1) (hby : i.bytes = bytes) (hzs : z.cells.size = 1) (v : Value) (L : List Value) (hs : a.eval s = v) (hown : InV W B e v L)
    (ad : Addr) (c : Nat) (y : Value) (h1 : y.oneCell' = true) (hx : a.eval x = .slice (some ad) 1 c) (hnew : W.cell? ad = some y) (h63 : L.length + 1 ≤ maxLen) (hbytes : (L.length + 1) * bytes ≤ 140737488355328) (hB : B ≤ W.heap.size)
    (h : ∀ v' w', InV w' B e v' (L ++ [y]) → W.grownBy w' v.ownBlock → (∀ k, v'.ownBlock = some k → v.ownBlock = some k ∨ W.heap.size ≤ k) → K (a.put o.dst v') w') : o.wp P a W K Q := by
  obtain ⟨v', w', hrun, h1, h2, h3⟩ := run_append_inV (P := P) W t o.type B e i z bytes ht hi hz hsize hby hzs v L hown ad c y h1 hnew h63 hbytes hB
  unfold Oper.wp execOp
  simp only [ho, resolve, invoke, builtin, Sem.run_bind, Sem.run_pure, Result.andThen_ok, List.map_toArray, List.map_cons, List.map_nil, hs, hx, hrun]
  exact h v' w' h1 h2 h3
theorem wpList_append_inV {W : World} {ops : Array Oper} {rest : List Oper} {o : Oper} {a : Act} {Q : Exit → Act → World → Prop} (hgd : o.guard = none) (s x : Operand) (t : TypeId)
    (ho : o.op = .call { callee := .builtin .append, args := #[s, x], argTypes := #[t, t] })
    (B : Nat) (e : TypeId) (i : TypeInfo) (z : Value) (bytes : Nat) (ht : P.underlying t = some (.slice e)) (hi : P.info? e = some i) (hz : i.zero = some z)
    (hsize : i.size = 1) (hby : i.bytes = bytes) (hzs : z.cells.size = 1) (v : Value) (L : List Value) (hs : a.eval s = v) (hown : InV W B e v L)
    (ad : Addr) (c : Nat) (y : Value) (h1 : y.oneCell' = true) (hx : a.eval x = .slice (some ad) 1 c) (hnew : W.cell? ad = some y) (h63 : L.length + 1 ≤ maxLen) (hbytes : (L.length + 1) * bytes ≤ 140737488355328) (hB : B ≤ W.heap.size)
    (h : ∀ v' w', InV w' B e v' (L ++ [y]) → W.grownBy w' v.ownBlock → (∀ k, v'.ownBlock = some k → v.ownBlock = some k ∨ W.heap.size ≤ k) → wpList P ops Q rest (a.put o.dst v') w') : wpList P ops Q (o :: rest) a W :=
  wpList_plain hgd fun K hK => wp_append_inV s x t ho B e i z bytes ht hi hz hsize hby hzs v L hs hown ad c y h1 hx hnew h63 hbytes hB fun v' w' h1 h2 h3 => hK _ _ (h v' w' h1 h2 h3)
end
/-- a deque in its box: the row's value, and what stands in it -/
structure DqAt (B : Nat) (w : World) (h T E : Nat) (v : Value) (L : List Value) : Prop where
  box : Blk w h T #[v]
  row : InV w B E v L
  Bh : B ≤ h
/-- what a call that leaves L' behind does to it -/
def DqPost (B h T E : Nat) (v : Value) (L' : List Value) (w w' : World) : Prop := ∃ v', DqAt B w' h T E v' L' ∧ KB (fun b => b = h ∨ v.ownBlock = some b) w w' ∧ ∀ b, v'.ownBlock = some b → v.ownBlock = some b ∨ w.heap.size ≤ b
theorem DqAt.own {B h T E : Nat} {w : World} {v : Value} {L : List Value} (hd : DqAt B w h T E v L) {b : Nat} (hb : b = h ∨ v.ownBlock = some b) : B ≤ b ∧ b < w.heap.size := by
  rcases hb with rfl | hb
  · exact ⟨hd.Bh, hd.box.lt⟩
  · exact hd.row.lt b hb
theorem DqAt.below {B h T E : Nat} {w w' : World} {v : Value} {L : List Value} (hd : DqAt B w h T E v L) (hb : Below w.heap.size w w') : DqAt B w' h T E v L := ⟨hd.box.below hb hd.box.lt, hd.row.below hb, hd.Bh⟩
theorem DqAt.kb {O : Nat → Prop} {B h T E : Nat} {w w' : World} {v : Value} {L : List Value} (hd : DqAt B w h T E v L) (hk : KB O w w') (ho : ∀ b, b = h ∨ v.ownBlock = some b → ¬ O b) : DqAt B w' h T E v L := ⟨hd.box.kb hk (ho h (.inl rfl)), hd.row.kb hk fun b hb => ho b (.inr hb), hd.Bh⟩
theorem DqAt.base {B B' h T E : Nat} {w : World} {v : Value} {L : List Value} (hd : DqAt B w h T E v L) (hB : B' ≤ B) : DqAt B' w h T E v L := ⟨hd.box, hd.row.base hB, Nat.le_trans hB hd.Bh⟩
theorem DqAt.new (w : World) (T E : Nat) : DqAt w.heap.size (w.alloc (.cells #[.slice none 0 0] T)) w.heap.size T E (.slice none 0 0) [] := ⟨Blk.new w T _, InV.nil _ _ _, Nat.le_refl _⟩
theorem dq_frame {B h T E : Nat} {a w w' : World} {v : Value} {L : List Value} (hd : DqAt B w h T E v L) (ha : a.heap.size ≤ B) (hb : Below a.heap.size a w) (hk : KB (fun b => b = h ∨ v.ownBlock = some b) w w') : Below a.heap.size a w' :=
  below_kb hb hk fun b hc => Nat.le_trans ha (hd.own hc).1
theorem set_one (u v : Value) : (#[u] : Array Value).setIfInBounds 0 v = #[v] := rfl
/-- something was put into its row, wherever that lies now -/
theorem DqAt.put {B h T E : Nat} {w w4 : World} {v v' : Value} {L L' : List Value} (hd : DqAt B w h T E v L) (hE : E ≠ T) (h1 : InV w4 B E v' L') (hk : KB (fun b => v.ownBlock = some b) w w4) (hloc : ∀ k, v'.ownBlock = some k → v.ownBlock = some k ∨ w.heap.size ≤ k) :
    DqPost B h T E v L' w (w4.setCell ⟨h, 0, none⟩ v') := by
  have hb4 : Blk w4 h T #[v] := hd.box.kb hk fun hc => hd.row.else_ hd.box hE hc
  refine ⟨v', ⟨?_, h1.apart hb4 hE 0 v', hd.Bh⟩, (hk.wide fun b _ hb => .inr hb).trans (KB.of_grown (grown_set w4 h 0 v') fun b hb => ?_), hloc⟩
  · have := hb4.set_ 0 v'
    rwa [set_one] at this
  · injection hb with hb
    exact .inl hb.symm
theorem last_of {α : Type} (L : List α) (h : L ≠ []) : ∃ K x, L = K ++ [x] := ⟨L.dropLast, L.getLast h, (List.dropLast_concat_getLast h).symm⟩
end Go.Proofs.Ytpeaajimnggjpaa
