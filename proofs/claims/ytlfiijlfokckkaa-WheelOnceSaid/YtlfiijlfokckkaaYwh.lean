/- The wheel in memory; New, Now, Len, spoke, Set. -/
import Derived.Test.YtlfiijlfokckkaaYmap
namespace Go.Proofs.Ytlfiijlfokckkaa
open Go.ChangeShapes Go.WideShapes Go.ChangeAt Go.RowKit Go.Maps
set_option linter.unusedVariables false

/-! ### worlds of which all but some blocks is as it was -/
structure KB (O : Nat → Prop) (w w' : World) : Prop where
  os : w'.os = w.os
  tape : w'.tape = w.tape
  output : w'.output = w.output
  size : w.heap.size ≤ w'.heap.size
  block : ∀ b, b < w.heap.size → ¬ O b → w'.heap[b]? = w.heap[b]?
theorem KB.refl (O : Nat → Prop) (w : World) : KB O w w := ⟨rfl, rfl, rfl, Nat.le_refl _, fun _ _ _ => rfl⟩
theorem KB.trans {O : Nat → Prop} {a b c : World} (h : KB O a b) (k : KB O b c) : KB O a c :=
  ⟨k.os.trans h.os, k.tape.trans h.tape, k.output.trans h.output, Nat.le_trans h.size k.size, fun i hi ho => (k.block i (Nat.lt_of_lt_of_le hi h.size) ho).trans (h.block i hi ho)⟩
theorem KB.of_grown {O : Nat → Prop} {w w' : World} {row : Option Nat} (h : w.grownBy w' row) (hr : ∀ b, row = some b → O b) : KB O w w' :=
  ⟨h.os, h.tape, h.output, h.size, fun b hb ho => h.block b hb (fun e => ho (hr b e.symm))⟩
theorem KB.of_below {O : Nat → Prop} {w w' : World} (h : Below w.heap.size w w') : KB O w w' := ⟨h.os, h.tape, h.output, h.size, fun b hb _ => h.block b hb⟩
theorem KB.wide {O O' : Nat → Prop} {w w' : World} (h : KB O w w') (ho : ∀ b, b < w.heap.size → O b → O' b) : KB O' w w' := ⟨h.os, h.tape, h.output, h.size, fun b hb hn => h.block b hb (fun hc => hn (ho b hb hc))⟩
theorem Blk.kb {O : Nat → Prop} {w w' : World} {g : Nat} {t : TypeId} {cs : Array Value} (h : Blk w g t cs) (hk : KB O w w') (hg : ¬ O g) : Blk w' g t cs := (hk.block g h.lt hg).trans h
theorem own_kb {O : Nat → Prop} {w w' : World} {base : Nat} {e : TypeId} {size : Nat} {v : Value} {n : Nat} {xs : List Value} (h : w.ownsRow base e size v n xs) (hk : KB O w w') (hg : ∀ b, v.ownBlock = some b → ¬ O b) : w'.ownsRow base e size v n xs := by
  refine ⟨h.1, ?_⟩
  rcases h.2 with h2 | ⟨g, cap, cur, rfl, hb, hgg, rest⟩
  · exact .inl h2
  · exact .inr ⟨g, cap, cur, rfl, hb, (hk.block g (Blk.lt hgg) (hg g rfl)).trans hgg, rest⟩

/-! ### the wheel -/
def spk (S : List Tm) (k : Nat) : List Tm := S.filter fun t => decide (t.tick % 64 = (k : Int))
def wcells (now : Int) (m : Nat) (vs : Nat → Value) : Array Value := (.int .i64 now :: .map (some m) :: (List.range 64).map vs).toArray
theorem wcells_zero (now : Int) (m : Nat) (vs : Nat → Value) : (wcells now m vs)[0]? = some (.int .i64 now) := by unfold wcells; simp
theorem wcells_one (now : Int) (m : Nat) (vs : Nat → Value) : (wcells now m vs)[1]? = some (.map (some m)) := by unfold wcells; simp
theorem wcells_row (now : Int) (m : Nat) (vs : Nat → Value) {k : Nat} (hk : k < 64) : (wcells now m vs)[2 + k]? = some (vs k) := by
  unfold wcells
  rw [List.getElem?_toArray, show 2 + k = k + 1 + 1 by omega, List.getElem?_cons_succ, List.getElem?_cons_succ, List.getElem?_map, List.getElem?_range hk]
  rfl
def upd (vs : Nat → Value) (k : Nat) (v : Value) : Nat → Value := fun j => if j = k then v else vs j
theorem wcells_set (now : Int) (m : Nat) (vs : Nat → Value) (k : Nat) (hk : k < 64) (v : Value) : (wcells now m vs).setIfInBounds (2 + k) v = wcells now m (upd vs k v) := by
  unfold wcells
  rw [List.setIfInBounds_toArray]
  congr 1
  apply List.ext_getElem?
  intro i
  rw [List.getElem?_set]
  match i with
  | 0 => simp
  | 1 => rw [if_neg (by omega)]; rfl
  | i + 2 =>
    rw [List.getElem?_cons_succ, List.getElem?_cons_succ, List.getElem?_cons_succ, List.getElem?_cons_succ, List.getElem?_map, List.getElem?_map]
    by_cases hi : i < 64
    · rw [List.getElem?_range hi]
      by_cases e : i = k
      · subst e
        rw [if_pos (by omega), if_pos (by simp; omega)]
        simp [upd]
      · rw [if_neg (by omega)]
        simp [upd, e]
    · rw [List.getElem?_eq_none (by simp; omega)]
      rw [if_neg (by omega)]
      simp
theorem wcells_now (now now' : Int) (m : Nat) (vs : Nat → Value) : (wcells now m vs).setIfInBounds 0 (.int .i64 now') = wcells now' m vs := by
  unfold wcells
  rw [List.setIfInBounds_toArray]
  rfl
/-- the blocks that are the wheel's -/
def Own (g m : Nat) (vs : Nat → Value) (b : Nat) : Prop := b = g ∨ b = m ∨ ∃ k, k < 64 ∧ (vs k).ownBlock = some b
structure WhAt (B : Nat) (w : World) (g m : Nat) (vs : Nat → Value) (now : Int) (S : List Tm) : Prop where
  blk : Blk w g 46 (wcells now m vs)
  ids : IdsAt w m S
  rows : ∀ k, k < 64 → w.ownsRow B 30 3 (vs k) (spk S k).length (rowT (spk S k))
  apart : ∀ j k, j < 64 → k < 64 → j ≠ k → ∀ b, (vs j).ownBlock = some b → (vs k).ownBlock ≠ some b
  Bg : B ≤ g
  Bm : B ≤ m
structure Sound (now : Int) (S : List Tm) : Prop where
  nodup : (S.map fun t => t.id).Nodup
  late : ∀ t ∈ S, now < t.tick ∧ t.tick ≤ 1073741824
  ids : ∀ t ∈ S, F64 t.id
  few : S.length ≤ 50
  now0 : 0 ≤ now
  now1 : now ≤ 1073741824
theorem WhAt.c0 {B : Nat} {w : World} {g m : Nat} {vs : Nat → Value} {now : Int} {S : List Tm} (h : WhAt B w g m vs now S) : w.cell? ⟨g, 0, none⟩ = some (.int .i64 now) := (h.blk.cell 0).trans (wcells_zero _ _ _)
theorem WhAt.c1 {B : Nat} {w : World} {g m : Nat} {vs : Nat → Value} {now : Int} {S : List Tm} (h : WhAt B w g m vs now S) : w.cell? ⟨g, 1, none⟩ = some (.map (some m)) := (h.blk.cell 1).trans (wcells_one _ _ _)
theorem WhAt.ck {B : Nat} {w : World} {g m : Nat} {vs : Nat → Value} {now : Int} {S : List Tm} (h : WhAt B w g m vs now S) {k : Nat} (hk : k < 64) : w.cell? ⟨g, 2 + k, none⟩ = some (vs k) := (h.blk.cell _).trans (wcells_row _ _ _ hk)
theorem blk_one {w : World} {g : Nat} {t t' : TypeId} {cs cs' : Array Value} (h : Blk w g t cs) (h' : Blk w g t' cs') : t = t' := by
  unfold Blk at h h'
  rw [h] at h'
  injection h' with h'
  injection h'
theorem WhAt.own_lt {B : Nat} {w : World} {g m : Nat} {vs : Nat → Value} {now : Int} {S : List Tm} (h : WhAt B w g m vs now S) : ∀ b, Own g m vs b → B ≤ b ∧ b < w.heap.size := by
  rintro b (rfl | rfl | ⟨k, hk, hb⟩)
  · exact ⟨h.Bg, h.blk.lt⟩
  · exact ⟨h.Bm, h.ids.lt⟩
  · rcases (h.rows k hk).2 with ⟨h1, _⟩ | ⟨g', cap, cur, h1, h2, h3, _⟩
    · rw [h1] at hb; cases hb
    · rw [h1] at hb
      injection hb with hb
      have : g' = b := hb
      subst this
      exact ⟨h2, Blk.lt h3⟩
theorem WhAt.row_g {B : Nat} {w : World} {g m : Nat} {vs : Nat → Value} {now : Int} {S : List Tm} (h : WhAt B w g m vs now S) {k : Nat} (hk : k < 64) : (vs k).ownBlock ≠ some g := own_else (h.rows k hk) h.blk (by decide)
theorem blk_map {w : World} {g m : Nat} {t : TypeId} {cs : Array Value} {S : List Tm} (h : Blk w g t cs) (hm : IdsAt w m S) : g ≠ m := by
  rintro rfl
  obtain ⟨D, ⟨es, clock, hb, _⟩, _⟩ := hm
  unfold Blk at h
  rw [h] at hb
  injection hb with hb
  cases hb
theorem WhAt.row_m {B : Nat} {w : World} {g m : Nat} {vs : Nat → Value} {now : Int} {S : List Tm} (h : WhAt B w g m vs now S) {k : Nat} (hk : k < 64) : (vs k).ownBlock ≠ some m := by
  intro hc
  rcases (h.rows k hk).2 with ⟨h1, _⟩ | ⟨g', cap, cur, h1, h2, h3, _⟩
  · rw [h1] at hc; cases hc
  · rw [h1] at hc
    injection hc with hc
    have : g' = m := hc
    subst this
    exact blk_map h3 h.ids rfl
theorem WhAt.gm {B : Nat} {w : World} {g m : Nat} {vs : Nat → Value} {now : Int} {S : List Tm} (h : WhAt B w g m vs now S) : g ≠ m := blk_map h.blk h.ids
/-- other blocks may change -/
theorem WhAt.kb {O : Nat → Prop} {B : Nat} {w w' : World} {g m : Nat} {vs : Nat → Value} {now : Int} {S : List Tm} (h : WhAt B w g m vs now S) (hk : KB O w w') (ho : ∀ b, Own g m vs b → ¬ O b) : WhAt B w' g m vs now S := by
  refine ⟨h.blk.kb hk (ho _ (.inl rfl)), ?_, fun k hk' => own_kb (h.rows k hk') hk fun b hb => ho _ (.inr (.inr ⟨k, hk', hb⟩)), h.apart, h.Bg, h.Bm⟩
  obtain ⟨D, ⟨es, clock, hb, rest⟩, hD⟩ := h.ids
  exact ⟨D, ⟨es, clock, (hk.block m h.ids.lt (ho _ (.inr (.inl rfl)))).trans hb, rest⟩, hD⟩
theorem WhAt.below {B : Nat} {w w' : World} {g m : Nat} {vs : Nat → Value} {now : Int} {S : List Tm} (h : WhAt B w g m vs now S) (hb : Below w.heap.size w w') : WhAt B w' g m vs now S := h.kb (O := fun _ => False) (KB.of_below hb) (fun _ _ h => h)
theorem WhAt.slice {B : Nat} {w : World} {g m : Nat} {vs : Nat → Value} {now : Int} {S : List Tm} (h : WhAt B w g m vs now S) {k : Nat} (hk : k < 64) : ∃ A cap, vs k = .slice A (spk S k).length cap := by
  rcases (h.rows k hk).2 with ⟨h1, h2⟩ | ⟨g', cap, cur, h1, _⟩
  · exact ⟨none, 0, by rw [h1, h2]⟩
  · exact ⟨_, _, h1⟩

theorem now_any (B g m : Nat) (vs : Nat → Value) (now : Int) (S : List Tm) (w : World) (h : WhAt B w g m vs now S) : Calls Try.prog 11 #[.pointer (some ⟨g, 0, none⟩)] w fun e w' => w' = w ∧ e = .returned (.int .i64 now) := by
  have c0 := h.c0
  clear h
  go_enter Try.func11, Try.ntmps11
  go_wp2_with fail
  go_ret
  exact ⟨rfl, rfl⟩
theorem len_any (B g m : Nat) (vs : Nat → Value) (now : Int) (S : List Tm) (w : World) (h : WhAt B w g m vs now S) : Calls Try.prog 12 #[.pointer (some ⟨g, 0, none⟩)] w fun e w' => w' = w ∧ e = .returned (.int .i64 (S.length : Int)) := by
  have c1 := h.c1
  have hlen := h.ids.len
  clear h
  go_enter Try.func12, Try.ntmps12
  go_wp2_with fail
  go_ret
  exact ⟨rfl, rfl⟩
theorem spoke_any (g : Nat) (tick : Int) (w : World) (h0 : 0 ≤ tick) (h1 : tick ≤ 2000000000) : Calls Try.prog 13 #[.pointer (some ⟨g, 0, none⟩), .int .i64 tick] w fun e w' => w' = w ∧ e = .returned (.pointer (some ⟨g, 2 + (tick % 64).toNat, none⟩)) := by
  obtain ⟨k, hk⟩ : ∃ k : Nat, tick % 64 = (k : Int) := ⟨(tick % 64).toNat, by omega⟩
  have hk64 : k < 64 := by omega
  have hk2 : (k : Int) < 64 := by omega
  have hk0 : (0 : Int) ≤ (k : Int) := by omega
  have ht : (tick % 64).toNat = k := by omega
  have hm : Int.tmod tick 64 = (k : Int) := by rw [Int.tmod_eq_emod_of_nonneg h0]; exact hk
  have hw : IntKind.i64.wrap (k : Int) = (k : Int) := by rw [IntKind.wrap_i64]; omega
  rw [ht]
  clear hk ht
  go_enter Try.func13, Try.ntmps13
  go_wp2_with fail
  go_ret
  exact ⟨rfl, by simp⟩
end Go.Proofs.Ytlfiijlfokckkaa
