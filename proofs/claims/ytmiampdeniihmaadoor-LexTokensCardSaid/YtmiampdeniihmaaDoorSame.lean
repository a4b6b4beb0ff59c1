/- Slices of tokens, wherever they lie; the contract of the document's question whether two are the same (spinetref02.Same), where they are. -/
import Derived.Test.YtmiampdeniihmaaDoorToks
namespace Go.Proofs.YtmiampdeniihmaaDoor
open Go.ChangeShapes Go.WideShapes Go.ChangeAt Go.RowKit
set_option linter.unusedVariables false

/-- a slice value that holds these tokens -/
def ToksAt (w : World) (v : Value) (ts : List Tk) : Prop :=
  ∃ (A : Option Addr) (cap : Nat), v = .slice A ts.length cap ∧ ts.length ≤ cap ∧ ∀ (i : Nat) (t : Tk), ts[i]? = some t → ∃ b o : Nat, A = some ⟨b, o, none⟩ ∧ b < w.heap.size ∧
    w.cell? ⟨b, o + i * 3, none⟩ = some (.int .i64 t.1) ∧ w.cell? ⟨b, o + i * 3 + 1, none⟩ = some (.int .i64 t.2.1) ∧ w.cell? ⟨b, o + i * 3 + 2, none⟩ = some (.int .i64 t.2.2)
theorem ToksAt.below {w w' : World} {v : Value} {ts : List Tk} (h : ToksAt w v ts) (hb : Below w.heap.size w w') : ToksAt w' v ts := by
  obtain ⟨A, cap, hv, hc, hi⟩ := h
  refine ⟨A, cap, hv, hc, fun i t ht => ?_⟩
  obtain ⟨b, o, hA, hlt, h0, h1, h2⟩ := hi i t ht
  exact ⟨b, o, hA, Nat.lt_of_lt_of_le hlt hb.size, (hb.cell (p := ⟨b, _, none⟩) hlt).trans h0, (hb.cell (p := ⟨b, _, none⟩) hlt).trans h1, (hb.cell (p := ⟨b, _, none⟩) hlt).trans h2⟩
theorem tks_at (ts : List Tk) : ∀ (i : Nat) (t : Tk), ts[i]? = some t → (tksCells ts)[i * 3]? = some (.int .i64 t.1) ∧ (tksCells ts)[i * 3 + 1]? = some (.int .i64 t.2.1) ∧ (tksCells ts)[i * 3 + 2]? = some (.int .i64 t.2.2) := by
  induction ts with
  | nil => intro i t h; simp at h
  | cons x r ih =>
    intro i t h
    have hc : tksCells (x :: r) = .int .i64 x.1 :: .int .i64 x.2.1 :: .int .i64 x.2.2 :: tksCells r := rfl
    cases i with
    | zero => simp at h; subst h; rw [hc]; exact ⟨rfl, rfl, rfl⟩
    | succ i =>
      simp at h
      obtain ⟨h0, h1, h2⟩ := ih i t h
      rw [hc, show (i + 1) * 3 = i * 3 + 3 from by omega]
      exact ⟨h0, h1, h2⟩
theorem ToksAt.of_own {w : World} {B : Nat} {v : Value} {ts : List Tk} (h : w.ownsRow B 40 3 v ts.length (tksCells ts)) : ToksAt w v ts := by
  rcases h.2 with ⟨rfl, hn⟩ | ⟨g, cap, cur, rfl, _, hg, hc, _, hs, ht⟩
  · have : ts = [] := List.eq_nil_of_length_eq_zero hn
    subst this
    exact ⟨none, 0, rfl, Nat.le_refl _, fun i t h => by simp at h⟩
  · refine ⟨_, cap, rfl, hc, fun i t hi => ?_⟩
    obtain ⟨h0, h1, h2⟩ := tks_at ts i t hi
    have hB : Blk w g 40 cur := hg
    have hl : i < ts.length := (List.getElem?_eq_some_iff.1 hi).1
    have hcell : ∀ j u, j < ts.length * 3 → (tksCells ts)[j]? = some u → w.cell? ⟨g, 0 + j, none⟩ = some u := by
      intro j u hj hu
      rw [hB.cell, ← hu, ← ht, List.getElem?_take, if_pos (by omega)]
      simp
    exact ⟨g, 0, rfl, hB.lt, hcell _ _ (by omega) h0, hcell _ _ (by omega) h1, hcell _ _ (by omega) h2⟩

set_option maxHeartbeats 1000000 in
theorem same_yes (v v' : Value) (ts : List Tk) (w : World) (hv : ToksAt w v ts) (hv' : ToksAt w v' ts) (hl : ts.length ≤ 1000000) :
    Calls Tryd.prog 10 #[v, v'] w fun e w' => e = .returned (.bool true) ∧ ∃ n, w' = w.drewN n := by
  obtain ⟨A, cap, rfl, hc, hi⟩ := hv
  obtain ⟨A', cap', rfl, hc', hi'⟩ := hv'
  have HI := Lib.hid hi
  have HI' := Lib.hid hi'
  clear hi hi'
  go_enter Tryd.func10, Tryd.ntmps10
  go_wp2
  go_loopw [5] (fun i wr => ∃ k n : Nat, k ≤ ts.length ∧ i = .int .i64 (k : Int) ∧ wr = w.drewN n) (fun i _ => ts.length - (intOf i).toNat)
  case atStart => exact ⟨0, 0, Nat.zero_le _, rfl, rfl⟩
  case round =>
    obtain ⟨k, n, hk, rfl, rfl⟩ := hrel
    by_cases hlt : k < ts.length
    · obtain ⟨b, o, rfl, hb, c0, c1, c2⟩ := HI.out k ts[k] (List.getElem?_eq_getElem hlt)
      obtain ⟨b', o', rfl, hb', c0', c1', c2'⟩ := HI'.out k ts[k] (List.getElem?_eq_getElem hlt)
      generalize ts[k] = t at *
      go_wp2
      go_quiet (fail)
      go_wp2
      go_roundw
      case rel => exact ⟨k + 1, _, by omega, by go_num, rfl⟩
      case measure => simp [intOf]; omega
    · go_wp2
      go_ret
      exact ⟨rfl, _, rfl⟩
end Go.Proofs.YtmiampdeniihmaaDoor
