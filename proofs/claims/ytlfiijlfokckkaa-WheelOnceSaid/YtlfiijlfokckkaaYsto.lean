/- A row of timers of the call's own, sorted. -/
import Derived.Test.YtlfiijlfokckkaaYmap
namespace Go.Proofs.Ytlfiijlfokckkaa
open Go.ChangeShapes Go.WideShapes Go.ChangeAt Go.RowKit Go.Sort Go.Lib
set_option linter.unusedVariables false

theorem swt_parts {w w' : World} {b : Nat} {d : Array Tm} {cur : Array Value} (h : SWT w b d w') (hb : Blk w b 30 cur) : w.grownBy w' (some b) ∧ ∃ cur', Blk w' b 30 cur' ∧ cur'.size = cur.size := by
  obtain ⟨n, os, rfl⟩ := h
  have hlt := hb.lt
  have hoth : ∀ i, i < w.heap.size → (sortWorldK encT 3 w b 0 n d os).heap[i]? = (w.heap.modify b (onCells (putCells id 0 (flatK encT 3 d))))[i]? := fun i hi => by
    show ((w.heap.modify b (onCells (putCells id 0 (flatK encT 3 d)))) ++ os)[i]? = _
    rw [Array.getElem?_append_left (by simpa using hi)]
  constructor
  · refine ⟨rfl, rfl, rfl, ?_, fun i hi hne => ?_⟩
    · show w.heap.size ≤ ((w.heap.modify b _) ++ os).size
      simp
    · rw [hoth i hi, Array.getElem?_modify, if_neg (fun e => hne (by rw [e]))]
  · refine ⟨putCells id 0 (flatK encT 3 d) cur, ?_, by simp [putCells]⟩
    unfold Blk at hb ⊢
    rw [hoth b hlt, Array.getElem?_modify, if_pos rfl, hb]
    rfl
theorem fn_list (L : List Tm) (i : Nat) (h : i < L.length) : fn L.toArray i = L[i] := by
  show L.toArray[i]! = _
  rw [getElem!_pos _ i (by simpa using h)]
  simp
theorem seg_list (L : List Tm) : seg (fn L.toArray) 0 L.length = L := by
  unfold seg
  apply List.ext_getElem
  · simp
  · intro i h1 h2
    rw [List.getElem_map, List.getElem_range', Nat.zero_add, Nat.one_mul]
    exact fn_list L i h2
theorem cells_holds {w : World} {b : Nat} {cur : Array Value} {d : Array Tm} (hb : Blk w b 30 cur) (hc : ∀ q c, d[q]? = some c → CellsC cur q c) : HoldsK encT 3 w b 0 d := by
  intro j hj
  rw [size_flatK] at hj
  rw [get_flatK _ _ _ _ hj]
  refine ⟨?_, hb.frozen _⟩
  have hq : j / 3 < d.size := by omega
  have h1 := hc (j / 3) d[j / 3] (Array.getElem?_eq_getElem hq)
  rw [getElem!_pos d _ hq, hb.cell, Nat.zero_add]
  obtain ⟨c0, c1, c2⟩ := h1
  have hd := Nat.div_add_mod j 3
  have hm : j % 3 < 3 := Nat.mod_lt _ (by decide)
  generalize d[j / 3] = t at c0 c1 c2
  generalize j / 3 = q at *
  generalize j % 3 = r at *
  subst hd
  rw [show 3 * q = q * 3 by omega]
  match r, hm with
  | 0, _ => exact c0
  | 1, _ => exact c1
  | 2, _ => exact c2
/-- a list that is another one, sorted by At, stably -/
def StableOf (L L' : List Tm) : Prop := (∀ i j, i < j → ∀ (hj : j < L'.length) (hi : i < L'.length), L'[i].tick ≤ L'[j].tick) ∧ L'.length = L.length ∧ ∀ x, (L'.filter fun t => decide (t.tick = x)) = L.filter fun t => decide (t.tick = x)
theorem sortNil_any (w : World) : Calls Try.prog 18 #[.slice none 0 0, cmpV] w fun e w' => e = .returned (.tuple #[]) ∧ w' = w := by
  have H23 : Hid (Calls Try.prog 23 #[.slice none 0 0, .int .i64 0, .int .i64 0, cmpV] w fun e w' => e = .returned (.tuple #[]) ∧ w' = w) := Lib.hid (by
    go_enter Try.func23, Try.ntmps23
    go_wp2
    refine wp_loop_rounds 1 ?_
    rw [rounds_succ]
    go_wp2
    go_end0
    exact ⟨rfl, rfl⟩)
  have H21 : Hid (Calls Try.prog 21 #[.slice none 0 0, .int .i64 0, cmpV] w fun e w' => e = .returned (.tuple #[]) ∧ w' = w) := Lib.hid (by
    go_enter Try.func21, Try.ntmps21
    go_wp2
    refine wp_loop_rounds 1 ?_
    rw [rounds_succ]
    go_wp2_with fail
    refine H23.out.mono ?_
    rintro e w1 ⟨rfl, rfl⟩
    go_wp2
    refine wp_loop_rounds 1 ?_
    rw [rounds_succ]
    go_wp2
    go_end0
    exact ⟨rfl, rfl⟩)
  go_enter Try.func18, Try.ntmps18
  go_wp2_with fail
  refine H21.out.mono ?_
  rintro e w1 ⟨rfl, rfl⟩
  go_wp2
  go_end0
  exact ⟨rfl, rfl⟩
/-- slices.SortStableFunc over a row of the call's own, or over none -/
theorem sortOwn_any (B : Nat) (v : Value) (L : List Tm) (w : World) (h : w.ownsRow B 30 3 v L.length (rowT L)) (hl : L.length ≤ 5000) :
    Calls Try.prog 18 #[v, cmpV] w fun e w' => e = .returned (.tuple #[]) ∧ w.grownBy w' v.ownBlock ∧ ∃ L', StableOf L L' ∧ w'.ownsRow B 30 3 v L'.length (rowT L') := by
  rcases h.2 with ⟨rfl, hn⟩ | ⟨g, cap, cur, rfl, _⟩
  · obtain rfl : L = [] := List.eq_nil_of_length_eq_zero hn
    refine (sortNil_any w).mono ?_
    rintro e w' ⟨rfl, rfl⟩
    exact ⟨rfl, ⟨rfl, rfl, rfl, Nat.le_refl _, fun _ _ _ => rfl⟩, [], ⟨fun i j _ hj => absurd hj (Nat.not_lt_zero _), rfl, fun _ => rfl⟩, h⟩
  · obtain ⟨cur, hB, _, hg, hcap, hmax, hs, hc⟩ := cells_of_own h
    have hH : HoldsK encT 3 w g 0 L.toArray := cells_holds hg (fun q c hq => hc q c (by simpa using hq))
    have R : RowT w g L.toArray := ⟨fun _ => rfl, fun x v hv => tm_one x v hv, hH, hg.lt⟩
    have := sortStable_any g cap L.length L.toArray w R (by simp) hl
    refine this.mono ?_
    rintro e w' ⟨rfl, d', hd', S', hsrt, hfl⟩
    obtain ⟨hgr, cur', hg', hs'⟩ := swt_parts S' hg
    have hfn : fn d' = fn d'.toList.toArray := by simp
    have hlen : d'.toList.length = L.length := by simp [hd']
    have hH' := S'.holds R.hblk R.hH (by simp [hd'])
    refine ⟨rfl, hgr, d'.toList, ⟨fun i j hij hj hi => ?_, hlen, fun x => ?_⟩, ?_⟩
    · have := hsrt i j (Nat.zero_le _) hij (by omega)
      rw [hfn, fn_list _ i hi, fn_list _ j hj] at this
      exact this
    · have := hfl x
      unfold filt at this
      rw [seg_list L, hfn, ← hlen, seg_list] at this
      exact this
    · rw [← hlen]
      refine own_of_cells hB hg' (by omega) hmax (by omega) (fun q c hq => ?_)
      have hq' : q < d'.size := by
        have := (List.getElem?_eq_some_iff.1 hq).1
        simpa using this
      have e : d'[q]! = c := by
        rw [getElem!_pos d' q hq']
        rw [List.getElem?_eq_getElem (by simpa using hq')] at hq
        injection hq with hq
      have c0 := (hH'.cell hq' (show 0 < 3 by decide)).1
      have c1 := (hH'.cell hq' (show 1 < 3 by decide)).1
      have c2 := (hH'.cell hq' (show 2 < 3 by decide)).1
      rw [e, Nat.zero_add, hg'.cell] at c0 c1 c2
      exact ⟨c0, c1, c2⟩
end Go.Proofs.Ytlfiijlfokckkaa
