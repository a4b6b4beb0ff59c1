/- The feed in memory; what an entry does to what is kept for a reader. -/
import Derived.Test.YtkcgpjlakhhggaaFdl
namespace Go.Proofs.Ytkcgpjlakhhggaa
open Go.ChangeShapes Go.WideShapes Go.ChangeAt Go.RowKit
set_option linter.unusedVariables false

/-! ### worlds of which all but some blocks is as it was -/
structure KB (O : Nat → Prop) (w w' : World) : Prop where
  os : w'.os = w.os
  tape : w'.tape = w.tape
  output : w'.output = w.output
  size : w.heap.size ≤ w'.heap.size
  block : ∀ b, b < w.heap.size → ¬ O b → w'.heap[b]? = w.heap[b]?
theorem KB.refl (O : Nat → Prop) (w : World) : KB O w w := ⟨rfl, rfl, rfl, Nat.le_refl _, fun _ _ _ => rfl⟩
theorem KB.trans {O : Nat → Prop} {a b c : World} (h : KB O a b) (k : KB O b c) : KB O a c :=
  ⟨k.os.trans h.os, k.tape.trans h.tape, k.output.trans h.output, Nat.le_trans h.size k.size, fun i hi ho => (k.block i (Nat.lt_of_lt_of_le hi h.size) ho).trans (h.block i hi ho)⟩
theorem KB.of_grown {O : Nat → Prop} {w w' : World} {row : Option Nat} (h : w.grownBy w' row) (hr : ∀ b, row = some b → O b) : KB O w w' :=
  ⟨h.os, h.tape, h.output, h.size, fun b hb ho => h.block b hb (fun e => ho (hr b e.symm))⟩
theorem KB.of_below {O : Nat → Prop} {w w' : World} (h : Below w.heap.size w w') : KB O w w' := ⟨h.os, h.tape, h.output, h.size, fun b hb _ => h.block b hb⟩
theorem KB.wide {O O' : Nat → Prop} {w w' : World} (h : KB O w w') (ho : ∀ b, b < w.heap.size → O b → O' b) : KB O' w w' := ⟨h.os, h.tape, h.output, h.size, fun b hb hn => h.block b hb (fun hc => hn (ho b hb hc))⟩
theorem Blk.kb {O : Nat → Prop} {w w' : World} {g : Nat} {t : TypeId} {cs : Array Value} (h : Blk w g t cs) (hk : KB O w w') (hg : ¬ O g) : Blk w' g t cs := (hk.block g h.lt hg).trans h
theorem own_kb {O : Nat → Prop} {w w' : World} {base : Nat} {e : TypeId} {size : Nat} {v : Value} {n : Nat} {xs : List Value} (h : w.ownsRow base e size v n xs) (hk : KB O w w') (hg : ∀ b, v.ownBlock = some b → ¬ O b) : w'.ownsRow base e size v n xs := by
  refine ⟨h.1, ?_⟩
  rcases h.2 with h2 | ⟨g, cap, cur, rfl, hb, hgg, rest⟩
  · exact .inl h2
  · exact .inr ⟨g, cap, cur, rfl, hb, (hk.block g (Blk.lt hgg) (hg g rfl)).trans hgg, rest⟩


theorem below_kb {O : Nat → Prop} {a w w' : World} (h : Below a.heap.size a w) (hk : KB O w w') (ho : ∀ b, O b → a.heap.size ≤ b) : Below a.heap.size a w' :=
  ⟨hk.os.trans h.os, hk.tape.trans h.tape, hk.output.trans h.output, Nat.le_trans h.size hk.size, fun k hlt => (hk.block k (Nat.lt_of_lt_of_le hlt h.size) (fun e => by have := ho k e; omega)).trans (h.block k hlt)⟩
theorem blk_one {w : World} {g : Nat} {t t' : TypeId} {cs cs' : Array Value} (h : Blk w g t cs) (h' : Blk w g t' cs') : t = t' := by
  unfold Blk at h h'
  rw [h] at h'
  injection h' with h'
  injection h'
theorem own_lt {w : World} {B : Nat} {e : TypeId} {s n : Nat} {v : Value} {xs : List Value} (h : w.ownsRow B e s v n xs) {b : Nat} (hb : v.ownBlock = some b) : B ≤ b ∧ b < w.heap.size := by
  rcases h.2 with ⟨h1, _⟩ | ⟨g', cap, cur, h1, h2, h3, _⟩
  · rw [h1] at hb; cases hb
  · rw [h1] at hb
    injection hb with hb
    have : g' = b := hb
    subst this
    exact ⟨h2, Blk.lt h3⟩
theorem slice_own {w : World} {B : Nat} {e : TypeId} {s n : Nat} {v : Value} {xs : List Value} (h : w.ownsRow B e s v n xs) : ∃ A cap, v = .slice A n cap := by
  rcases h.2 with ⟨h1, h2⟩ | ⟨g', cap, cur, h1, _⟩
  · exact ⟨none, 0, by rw [h1, h2]⟩
  · exact ⟨_, _, h1⟩
/-- a row of numbers of one's own reads as a row -/
theorem list_of_own {w : World} {B : Nat} {e : TypeId} {v : Value} {L : List Int} (h : w.ownsRow B e 1 v L.length (intVals L)) : ListAt w v L := by
  rcases h.2 with ⟨rfl, h0⟩ | ⟨g, cap, cur, rfl, hB, hg, hc, hm, hs, ht⟩
  · rw [List.eq_nil_of_length_eq_zero h0]
    exact RowsAt.nil w
  · refine ⟨_, cap, rfl, hc, fun i x hx => ⟨g, 0, rfl, Blk.lt hg, ?_⟩⟩
    have hl := (List.getElem?_eq_some_iff.1 hx).1
    unfold IntAt
    rw [Blk.cell hg]
    have h1 : (cur.toList.take (L.length * 1))[i]? = (intVals L)[i]? := by rw [ht]
    rw [List.getElem?_take, if_pos (by omega), Array.getElem?_toList] at h1
    rw [show 0 + i * 1 = i by omega, h1]
    unfold intVals
    rw [List.getElem?_map, hx]
    rfl
theorem intVals_drop (L : List Int) (k : Nat) : (intVals L).drop k = intVals (L.drop k) := by
  unfold intVals
  rw [List.map_drop]
theorem intVals_set (L : List Int) (i : Nat) (x : Int) : intVals (L.set i x) = (intVals L).set i (.int .i64 x) := by
  unfold intVals
  rw [List.map_set]
/-- a number of a row of one's own is stored -/
theorem own_set {w : World} {B : Nat} {e : TypeId} {g cap n i : Nat} {L : List Int} {x : Int} (h : w.ownsRow B e 1 (.slice (some ⟨g, 0, none⟩) n cap) L.length (intVals L)) (hi : i < L.length) :
    (w.setCell ⟨g, i, none⟩ (.int .i64 x)).ownsRow B e 1 (.slice (some ⟨g, 0, none⟩) n cap) (L.set i x).length (intVals (L.set i x)) := by
  refine ⟨by rw [intVals_len]; omega, ?_⟩
  rcases h.2 with ⟨h0, _⟩ | ⟨g', cap', cur, h1, hB, hg, hc, hm, hs, ht⟩
  · cases h0
  · injection h1 with e1 e2 e3
    injection e1 with e1
    injection e1 with e4
    subst e4; subst e3
    refine .inr ⟨g, cap, cur.setIfInBounds i (.int .i64 x), by rw [List.length_set, e2], hB, Blk.set_ hg i _, by rw [List.length_set]; exact hc, hm, by rw [Array.size_setIfInBounds]; exact hs, ?_⟩
    rw [intVals_set, List.length_set, Array.toList_setIfInBounds, List.take_set, ht]

/-! ### what is kept for a reader -/
structure Rd where
  kept : List Int
  lost : Nat
def addR (room : Nat) (n : Int) (r : Rd) : Rd := if r.kept.length = room then ⟨r.kept.drop 1 ++ [n], r.lost + 1⟩ else ⟨r.kept ++ [n], r.lost⟩
def encU (u : Value × Rd) : List Value := [u.1, .int .i64 (u.2.lost : Int)]
def rowU (us : List (Value × Rd)) : List Value := us.flatMap encU
def CellsU (cur : Array Value) (q : Nat) (u : Value × Rd) : Prop := cur[q * 2]? = some u.1 ∧ cur[q * 2 + 1]? = some (.int .i64 (u.2.lost : Int))
theorem own_of_cells {w : World} {B g cap : Nat} {cur : Array Value} {K : List (Value × Rd)} (hB : B ≤ g) (hg : Blk w g 47 cur) (hK : K.length ≤ cap) (hcap : cap ≤ maxLen) (hs : cur.size = cap * 2) (hc : ∀ q c, K[q]? = some c → CellsU cur q c) :
    w.ownsRow B 47 2 (.slice (some ⟨g, 0, none⟩) K.length cap) K.length (rowU K) := by
  have hl : (rowU K).length = K.length * 2 := flatMap_len (cells := encU) (n := 2) (fun _ => rfl) K
  refine ⟨hl, .inr ⟨g, cap, cur, rfl, hB, hg, hK, hcap, hs, ?_⟩⟩
  apply List.ext_getElem?
  intro t
  rw [List.getElem?_take]
  by_cases ht : t < K.length * 2
  · rw [if_pos ht]
    have hu := List.getElem?_eq_getElem (show t < (rowU K).length by omega)
    obtain ⟨q, j, c, rfl, hq, hj⟩ := cells_inv (cells := encU) (n := 2) (fun _ => rfl) K t _ hu
    obtain ⟨c0, c1⟩ := hc q c hq
    have hall : ∀ m, m < 2 → cur[q * 2 + m]? = (encU c)[m]? := fun m hm => by
      match m, hm with
      | 0, _ => exact c0
      | 1, _ => exact c1
    have := hall j (List.getElem?_eq_some_iff.1 hj).1
    rw [hu, ← hj, ← this]
    simp
  · rw [if_neg ht, List.getElem?_eq_none (by omega)]
theorem cells_of_own {w : World} {B g n cap : Nat} {K : List (Value × Rd)} (h : w.ownsRow B 47 2 (.slice (some ⟨g, 0, none⟩) n cap) K.length (rowU K)) :
    ∃ cur, B ≤ g ∧ n = K.length ∧ Blk w g 47 cur ∧ K.length ≤ cap ∧ cap ≤ maxLen ∧ cur.size = cap * 2 ∧ ∀ q c, K[q]? = some c → CellsU cur q c := by
  rcases h.2 with ⟨h0, _⟩ | ⟨g', cap', cur, h1, hB, hg, hc, hm, hs, ht⟩
  · cases h0
  · injection h1 with e1 e2 e3
    injection e1 with e1
    injection e1 with e4
    subst e4; subst e3
    have hcell : ∀ q c j u, K[q]? = some c → (encU c)[j]? = some u → cur[q * 2 + j]? = some u := fun q c j u hq hu => by
      have hj := (List.getElem?_eq_some_iff.1 hu).1
      have hj3 : j < 2 := hj
      have hql := (List.getElem?_eq_some_iff.1 hq).1
      have := cells_flat (cells := encU) (n := 2) (fun _ => rfl) K q c j u hq hu
      rw [show K.flatMap encU = rowU K from rfl, ← ht, List.getElem?_take, if_pos (by omega)] at this
      rw [← this]
      simp
    exact ⟨cur, hB, e2, hg, hc, hm, hs, fun q c hq => ⟨hcell q c 0 _ hq rfl, hcell q c 1 _ hq rfl⟩⟩

/-! ### the feed -/
def Own (g : Nat) (rv : Value) (us : List (Value × Rd)) (b : Nat) : Prop := b = g ∨ rv.ownBlock = some b ∨ ∃ u ∈ us, u.1.ownBlock = some b
structure FeAt (B : Nat) (w : World) (g room : Nat) (rv : Value) (us : List (Value × Rd)) : Prop where
  blk : Blk w g 45 #[.int .i64 (room : Int), rv]
  row : w.ownsRow B 47 2 rv us.length (rowU us)
  kept : ∀ u ∈ us, w.ownsRow B 2 1 u.1 u.2.kept.length (intVals u.2.kept)
  apart : ∀ (i j : Nat) (u u' : Value × Rd), us[i]? = some u → us[j]? = some u' → i ≠ j → ∀ b, u.1.ownBlock = some b → u'.1.ownBlock ≠ some b
  Bg : B ≤ g
theorem FeAt.c0 {B : Nat} {w : World} {g room : Nat} {rv : Value} {us : List (Value × Rd)} (h : FeAt B w g room rv us) : w.cell? ⟨g, 0, none⟩ = some (.int .i64 (room : Int)) := h.blk.cell 0
theorem FeAt.c1 {B : Nat} {w : World} {g room : Nat} {rv : Value} {us : List (Value × Rd)} (h : FeAt B w g room rv us) : w.cell? ⟨g, 1, none⟩ = some rv := h.blk.cell 1
theorem FeAt.own_lt {B : Nat} {w : World} {g room : Nat} {rv : Value} {us : List (Value × Rd)} (h : FeAt B w g room rv us) : ∀ b, Own g rv us b → B ≤ b ∧ b < w.heap.size := by
  rintro b (rfl | hb | ⟨u, hu, hb⟩)
  · exact ⟨h.Bg, h.blk.lt⟩
  · exact Go.Proofs.Ytkcgpjlakhhggaa.own_lt h.row hb
  · exact Go.Proofs.Ytkcgpjlakhhggaa.own_lt (h.kept u hu) hb
/-- other blocks may change -/
theorem FeAt.kb {O : Nat → Prop} {B : Nat} {w w' : World} {g room : Nat} {rv : Value} {us : List (Value × Rd)} (h : FeAt B w g room rv us) (hk : KB O w w') (ho : ∀ b, Own g rv us b → ¬ O b) : FeAt B w' g room rv us :=
  ⟨h.blk.kb hk (ho _ (.inl rfl)), own_kb h.row hk fun b hb => ho _ (.inr (.inl hb)), fun u hu => own_kb (h.kept u hu) hk fun b hb => ho _ (.inr (.inr ⟨u, hu, hb⟩)), h.apart, h.Bg⟩
theorem FeAt.below {B : Nat} {w w' : World} {g room : Nat} {rv : Value} {us : List (Value × Rd)} (h : FeAt B w g room rv us) (hb : Below w.heap.size w w') : FeAt B w' g room rv us := h.kb (O := fun _ => False) (KB.of_below hb) (fun _ _ h => h)
/-- a reader's two cells and what is kept for it are changed -/
theorem FeAt.put {B : Nat} {w w' : World} {g room h cap n i : Nat} {us : List (Value × Rd)} {u u' : Value × Rd} {cur : Array Value} (hF : FeAt B w g room (.slice (some ⟨h, 0, none⟩) n cap) us) (hi : us[i]? = some u)
    (hcur : Blk w h 47 cur) (hk : KB (fun b => b = h ∨ u.1.ownBlock = some b) w w') (hblk : Blk w' h 47 ((cur.setIfInBounds (i * 2) u'.1).setIfInBounds (i * 2 + 1) (.int .i64 (u'.2.lost : Int))))
    (hkept : w'.ownsRow B 2 1 u'.1 u'.2.kept.length (intVals u'.2.kept)) (hloc : ∀ b, u'.1.ownBlock = some b → u.1.ownBlock = some b ∨ w.heap.size ≤ b) :
    FeAt B w' g room (.slice (some ⟨h, 0, none⟩) n cap) (us.set i u') ∧ KB (Own g (.slice (some ⟨h, 0, none⟩) n cap) us) w w' ∧ ∀ b, Own g (.slice (some ⟨h, 0, none⟩) n cap) (us.set i u') b → Own g (.slice (some ⟨h, 0, none⟩) n cap) us b ∨ w.heap.size ≤ b := by
  have hil := (List.getElem?_eq_some_iff.1 hi).1
  have hum := List.mem_of_getElem? hi
  obtain ⟨cur', hBh, hn, hcb, hc1, hc2, hc3, hc4⟩ := cells_of_own hF.row
  have ec : cur' = cur := by
    unfold Blk at hcur hcb
    rw [hcur] at hcb
    injection hcb with hcb
    injection hcb with hcb
    exact hcb.symm
  subst ec
  have hgh : g ≠ h := fun e => by subst e; exact absurd (blk_one hF.blk hcb) (by decide)
  have hgu : u.1.ownBlock ≠ some g := own_else (hF.kept u hum) hF.blk (by decide)
  have hnew : ∀ j v, us[j]? = some v → j ≠ i → ∀ b, v.1.ownBlock = some b → u'.1.ownBlock ≠ some b := fun j v hj hne b hb hc => by
    rcases hloc b hc with h1 | h1
    · exact hF.apart j i v u hj hi hne b hb h1
    · have := (Go.Proofs.Ytkcgpjlakhhggaa.own_lt (hF.kept v (List.mem_of_getElem? hj)) hb).2
      omega
  have hset : ∀ j v, (us.set i u')[j]? = some v → (j = i ∧ v = u') ∨ (j ≠ i ∧ us[j]? = some v) := fun j v hj => by
    rw [List.getElem?_set] at hj
    split at hj
    · rename_i e
      injection hj with hj
      exact .inl ⟨e.symm, hj.symm⟩
    · rename_i e
      exact .inr ⟨fun hc => e hc.symm, hj⟩
  refine ⟨⟨?_, ?_, ?_, ?_, hF.Bg⟩, ?_, ?_⟩
  · refine hF.blk.kb hk ?_
    rintro (e | e)
    · exact hgh e
    · exact hgu e
  · have := own_of_cells (K := us.set i u') hBh hblk (by rw [List.length_set]; exact hc1) hc2 (by simp [hc3]) (fun q c hq => by
      rcases hset q c hq with ⟨rfl, rfl⟩ | ⟨hne, hq'⟩
      · refine ⟨?_, ?_⟩
        · rw [Array.getElem?_setIfInBounds_ne (by omega), Array.getElem?_setIfInBounds_self, if_pos (by omega)]
        · rw [Array.getElem?_setIfInBounds_self, if_pos (by rw [Array.size_setIfInBounds]; omega)]
      · obtain ⟨d0, d1⟩ := hc4 q c hq'
        refine ⟨?_, ?_⟩
        · rw [Array.getElem?_setIfInBounds_ne (by omega), Array.getElem?_setIfInBounds_ne (by omega), d0]
        · rw [Array.getElem?_setIfInBounds_ne (by omega), Array.getElem?_setIfInBounds_ne (by omega), d1])
    rw [List.length_set] at this ⊢
    rw [hn]
    exact this
  · intro v hv
    obtain ⟨j, hj⟩ := List.mem_iff_getElem?.1 hv
    rcases hset j v hj with ⟨rfl, rfl⟩ | ⟨hne, hq'⟩
    · exact hkept
    · have hvm := List.mem_of_getElem? hq'
      refine own_kb (hF.kept v hvm) hk ?_
      rintro b hb (e | e)
      · subst e
        exact own_else (hF.kept v hvm) hcb (by decide) hb
      · exact hF.apart j i v u hq' hi hne b hb e
  · intro a b va vb ha hb hab c hca
    rcases hset a va ha with ⟨rfl, rfl⟩ | ⟨ha1, ha2⟩
    · rcases hset b vb hb with ⟨rfl, rfl⟩ | ⟨hb1, hb2⟩
      · exact absurd rfl hab
      · exact fun hc => hnew b vb hb2 hb1 c hc hca
    · rcases hset b vb hb with ⟨rfl, rfl⟩ | ⟨hb1, hb2⟩
      · exact hnew a va ha2 ha1 c hca
      · exact hF.apart a b va vb ha2 hb2 hab c hca
  · refine hk.wide fun b _ hb => ?_
    rcases hb with rfl | hb
    · exact .inr (.inl rfl)
    · exact .inr (.inr ⟨u, hum, hb⟩)
  · rintro b (hb | hb | ⟨v, hv, hb⟩)
    · exact .inl (.inl hb)
    · exact .inl (.inr (.inl hb))
    · obtain ⟨j, hj⟩ := List.mem_iff_getElem?.1 hv
      rcases hset j v hj with ⟨rfl, rfl⟩ | ⟨hne, hq'⟩
      · rcases hloc b hb with h1 | h1
        · exact .inl (.inr (.inr ⟨u, hum, h1⟩))
        · exact .inr h1
      · exact .inl (.inr (.inr ⟨v, List.mem_of_getElem? hq', hb⟩))
end Go.Proofs.Ytkcgpjlakhhggaa
