/- A chart that is being copied: the first k states, transitions are done. -/
import Derived.Test.YtdkmloldajhdaaaGreatDoorTmem
import Derived.Test.YtdkmloldajhdaaaGreatDoorDrw
namespace Go.Proofs.YtdkmloldajhdaaaGreatDoor
open Go.ChangeShapes Go.WideShapes Go.ChangeAt Go.RowKit
set_option linter.unusedVariables false

theorem results_own {fn : Func} {r : Tmp} {ty : TypeId} {cs : Array Value} (hr : fn.results = #[.cell r ty]) (tmps : Array Value) (w : World) (g : Nat) (hp : tmps.getD r undef = .pointer (some ⟨g, 0, none⟩)) (hl : (loadVar ty ⟨g, 0, none⟩).run Tryz.prog w = .ok (.agg cs) w) :
    (results fn tmps).run Tryz.prog w = .ok (.agg cs) w := by
  simp at hp
  simp [results, hr, hp, asAddr, hl]
theorem load_ch {w : World} {g : Nat} {a b c : Value} (hB : Blk w g 25 #[a, b, c]) : (loadVar 25 ⟨g, 0, none⟩).run Tryz.prog w = .ok (.agg #[a, b, c]) w := run_loadVar_row (P := Tryz.prog) w g 25 25 _ (0, 0) _ hB Tryz.underlying25 rfl (by kernel_rfl)
/-- the same chart, in memory from there on -/
def CcPost (C : Ch) (w : World) (e : Ending) (w' : World) : Prop := Below w.heap.size w w' ∧ ∃ vs vt, e = .returned (.agg #[.int .i64 C.vars, vs, vt]) ∧ OwnCh w.heap.size w' vs vt C
theorem RowIs.slice {w : World} {n : Nat} {v : Value} {len : Nat} {news : List Value} (h : RowIs w n v len news) : ∃ A cap, v = .slice A len cap := by
  obtain ⟨_, ⟨c, rfl, rfl⟩ | ⟨ad, cap, rfl, _⟩⟩ := h
  · exact ⟨none, c, rfl⟩
  · exact ⟨some ad, cap, rfl⟩
theorem RowIs.below {w w' : World} {n : Nat} {v : Value} {len : Nat} {news : List Value} (h : RowIs w n v len news) (hb : Below w.heap.size w w') : RowIs w' n v len news := by
  obtain ⟨h0, ⟨c, h1, h2⟩ | ⟨ad, cap, h1, h2, h3⟩⟩ := h
  · exact ⟨h0, .inl ⟨c, h1, h2⟩⟩
  · exact ⟨h0, .inr ⟨ad, cap, h1, fun j u hu => (hb.cell (Lib.lt_of_cell (h2 j u hu))).trans (h2 j u hu), h3⟩⟩
theorem own_form {w : World} {B e n len : Nat} {v : Value} {xs : List Value} (h : w.ownsRow B e n v len xs) : ∃ A cap, v = .slice A len cap := by
  rcases h.2 with ⟨h1, h2⟩ | ⟨g, cap, cur, h1, _⟩
  · exact ⟨none, 0, by rw [h1, h2]⟩
  · exact ⟨_, _, h1⟩
theorem blk_ne {w : World} {g g' : Nat} {t t' : TypeId} {cs cs' : Array Value} (h : Blk w g t cs) (h' : Blk w g' t' cs') (hne : t ≠ t') : g ≠ g' := by
  intro he
  subst he
  unfold Blk at h h'
  rw [h] at h'
  injection h' with h'
  injection h' with _ h5
  exact hne h5
theorem Blk.set_ne {w : World} {g g' : Nat} {t : TypeId} {cs : Array Value} (h : Blk w g t cs) (hne : g ≠ g') (j : Nat) (u : Value) : Blk (w.setCell ⟨g', j, none⟩ u) g t cs := (Below.heap_setCell w ⟨g', j, none⟩ u g hne).trans h
/-- the states' row when the first k are done -/
def StsTo (w0 w : World) (v : Value) (S : List St) (k : Nat) : Prop := ∃ rs : List StRow, rs.map (fun r => r.1) = S ∧ RowAt w0.heap.size w 47 5 stateCells v rs ∧ ∀ i r, rs[i]? = some r → (i < k → Own3 w0.heap.size w r) ∧ (k ≤ i → StHas w0 r.2.1 r.2.2.1 r.2.2.2 r.1)
def TrsTo (w0 w : World) (v : Value) (S : List Tr) (k : Nat) : Prop := ∃ rs : List TrRow, rs.map (fun r => r.1) = S ∧ RowAt w0.heap.size w 53 6 transCells v rs ∧ ∀ i r, rs[i]? = some r → (i < k → Own2 w0.heap.size w r) ∧ (k ≤ i → TrHas w0 r.2.1 r.2.2 r.1)
theorem StsTo.below {w0 w w' : World} {v : Value} {S : List St} {k : Nat} (h : StsTo w0 w v S k) (hb : Below w.heap.size w w') : StsTo w0 w' v S k := by
  obtain ⟨rs, h1, h2, h3⟩ := h
  exact ⟨rs, h1, h2.below hb, fun i r hr => ⟨fun hi => ((h3 i r hr).1 hi).below hb, (h3 i r hr).2⟩⟩
theorem TrsTo.below {w0 w w' : World} {v : Value} {S : List Tr} {k : Nat} (h : TrsTo w0 w v S k) (hb : Below w.heap.size w w') : TrsTo w0 w' v S k := by
  obtain ⟨rs, h1, h2, h3⟩ := h
  exact ⟨rs, h1, h2.below hb, fun i r hr => ⟨fun hi => ((h3 i r hr).1 hi).below hb, (h3 i r hr).2⟩⟩
theorem StsTo.apart {w0 w : World} {v : Value} {S : List St} {k g t : Nat} {cs : Array Value} (h : StsTo w0 w v S k) (hg : Blk w g t cs) (h1 : 3 ≠ t) (h2 : 77 ≠ t) (h4 : 47 ≠ t) (j : Nat) (u : Value) : StsTo w0 (w.setCell ⟨g, j, none⟩ u) v S k := by
  obtain ⟨rs, q1, q2, q3⟩ := h
  exact ⟨rs, q1, q2.apart hg h4 j u, fun i r hr => ⟨fun hi => ((q3 i r hr).1 hi).apart hg h1 h2 j u, (q3 i r hr).2⟩⟩
theorem TrsTo.apart {w0 w : World} {v : Value} {S : List Tr} {k g t : Nat} {cs : Array Value} (h : TrsTo w0 w v S k) (hg : Blk w g t cs) (h1 : 3 ≠ t) (h2 : 77 ≠ t) (h4 : 53 ≠ t) (j : Nat) (u : Value) : TrsTo w0 (w.setCell ⟨g, j, none⟩ u) v S k := by
  obtain ⟨rs, q1, q2, q3⟩ := h
  exact ⟨rs, q1, q2.apart hg h4 j u, fun i r hr => ⟨fun hi => ((q3 i r hr).1 hi).apart hg h1 h2 j u, (q3 i r hr).2⟩⟩
theorem StsTo.slice {w0 w : World} {v : Value} {S : List St} {k : Nat} (h : StsTo w0 w v S k) : ∃ A cap, v = .slice A S.length cap := by
  obtain ⟨rs, h1, h2, _⟩ := h
  have hl : rs.length = S.length := by rw [← h1, List.length_map]
  rcases h2 with ⟨rfl, rfl⟩ | ⟨g, cap, cur, rfl, _⟩
  · exact ⟨none, 0, by rw [← hl]; rfl⟩
  · exact ⟨_, cap, by rw [hl]⟩
theorem TrsTo.slice {w0 w : World} {v : Value} {S : List Tr} {k : Nat} (h : TrsTo w0 w v S k) : ∃ A cap, v = .slice A S.length cap := by
  obtain ⟨rs, h1, h2, _⟩ := h
  have hl : rs.length = S.length := by rw [← h1, List.length_map]
  rcases h2 with ⟨rfl, rfl⟩ | ⟨g, cap, cur, rfl, _⟩
  · exact ⟨none, 0, by rw [← hl]; rfl⟩
  · exact ⟨_, cap, by rw [hl]⟩
theorem StsTo.start {w0 w : World} {B : Nat} {v v' : Value} {rs : List StRow} (h0 : RowsAt 5 StRowAt w0 v rs) (h : w.ownsRow B 47 5 v' rs.length (rs.flatMap stateCells)) (hB : w0.heap.size ≤ B) : StsTo w0 w v' (rs.map fun r => r.1) 0 := by
  refine ⟨rs, rfl, (RowAt.of_own stateCells_len h).lower hB, fun i r hr => ⟨fun hi => by omega, fun _ => ?_⟩⟩
  obtain ⟨b, o, hp⟩ := h0.mem r (List.mem_of_getElem? hr)
  exact hp.2
theorem TrsTo.start {w0 w : World} {B : Nat} {v v' : Value} {rs : List TrRow} (h0 : RowsAt 6 TrRowAt w0 v rs) (h : w.ownsRow B 53 6 v' rs.length (rs.flatMap transCells)) (hB : w0.heap.size ≤ B) : TrsTo w0 w v' (rs.map fun r => r.1) 0 := by
  refine ⟨rs, rfl, (RowAt.of_own transCells_len h).lower hB, fun i r hr => ⟨fun hi => by omega, fun _ => ?_⟩⟩
  obtain ⟨b, o, hp⟩ := h0.mem r (List.mem_of_getElem? hr)
  exact hp.2
theorem StsTo.own {w0 w : World} {v : Value} {S : List St} (h : StsTo w0 w v S S.length) : ∃ rs : List StRow, rs.map (fun r => r.1) = S ∧ OwnSts w0.heap.size w v rs := by
  obtain ⟨rs, h1, h2, h3⟩ := h
  refine ⟨rs, h1, h2, fun r hr => ?_⟩
  obtain ⟨i, hi⟩ := List.getElem?_of_mem hr
  exact (h3 i r hi).1 (by have := (List.getElem?_eq_some_iff.1 hi).1; rw [← h1, List.length_map]; exact this)
theorem TrsTo.own {w0 w : World} {v : Value} {S : List Tr} (h : TrsTo w0 w v S S.length) : ∃ rs : List TrRow, rs.map (fun r => r.1) = S ∧ OwnTrs w0.heap.size w v rs := by
  obtain ⟨rs, h1, h2, h3⟩ := h
  refine ⟨rs, h1, h2, fun r hr => ?_⟩
  obtain ⟨i, hi⟩ := List.getElem?_of_mem hr
  exact (h3 i r hi).1 (by have := (List.getElem?_eq_some_iff.1 hi).1; rw [← h1, List.length_map]; exact this)
/-- the k-th state, where it lies in the row -/
theorem StsTo.at_ {w0 w : World} {v : Value} {S : List St} {k : Nat} (h : StsTo w0 w v S k) (hk : k < S.length) : ∃ g cap cur vi ve vx, v = .slice (some ⟨g, 0, none⟩) S.length cap ∧ S.length ≤ cap ∧ Blk w g 47 cur ∧ w0.heap.size ≤ g ∧ StHas w0 vi ve vx (S.getD k noSt) ∧
    (w.cell? ⟨g, k * 5 + 2, none⟩ = some vi ∧ w.cell? ⟨g, k * 5 + 3, none⟩ = some ve ∧ w.cell? ⟨g, k * 5 + 4, none⟩ = some vx) ∧
    (∀ (w1 : World) (a b c : Value), Below w.heap.size w w1 → OwnInts w0.heap.size w1 a (S.getD k noSt).ini → OwnActs w0.heap.size w1 b (S.getD k noSt).ent → OwnActs w0.heap.size w1 c (S.getD k noSt).exi → StsTo w0 (((w1.setCell ⟨g, k * 5 + 2, none⟩ a).setCell ⟨g, k * 5 + 3, none⟩ b).setCell ⟨g, k * 5 + 4, none⟩ c) v S (k + 1)) := by
  obtain ⟨rs, h1, h2, h3⟩ := h
  have hl : rs.length = S.length := by rw [← h1, List.length_map]
  have hr := List.getElem?_eq_getElem (l := rs) (i := k) (by omega)
  generalize rs[k] = r at hr
  have hS : S.getD k noSt = r.1 := by rw [← h1]; simp [List.getD, hr]
  obtain ⟨g, cap, cur, rfl, hc, hB, hg, hce⟩ := h2.at_ hr
  obtain ⟨s, vi, ve, vx⟩ := r
  simp only at hS
  refine ⟨g, cap, cur, vi, ve, vx, by rw [hl], by omega, hg, hB, by rw [hS]; exact (h3 k _ hr).2 (Nat.le_refl _), ⟨(hce 2 _ rfl).1, (hce 3 _ rfl).1, (hce 4 _ rfl).1⟩, fun w1 a b c hb ha hb' hc' => ?_⟩
  rw [hS] at ha hb' hc'
  have hlt : k < rs.length := by omega
  have e1 : rs.set k (s, a, b, c) = ((rs.set k (s, a, ve, vx)).set k (s, a, b, vx)).set k (s, a, b, c) := by rw [List.set_set, List.set_set]
  have hg1 := hg.below hb hg.lt
  have r1 := (h2.below hb).put (r' := (s, a, ve, vx)) (j := 2) (u := a) stateCells_len hr (by decide) rfl
  have r2 := r1.put (r' := (s, a, b, vx)) (j := 3) (u := b) stateCells_len (List.getElem?_set_self hlt) (by decide) rfl
  have r3 := r2.put (r' := (s, a, b, c)) (j := 4) (u := c) stateCells_len (List.getElem?_set_self (by rw [List.length_set]; exact hlt)) (by decide) rfl
  rw [← e1] at r3
  refine ⟨rs.set k (s, a, b, c), ?_, r3, fun i r hi => ?_⟩
  · rw [List.map_set, ← h1]
    have : (rs.map fun r => r.1)[k]? = some s := by rw [List.getElem?_map, hr]; rfl
    exact List.ext_getElem? fun j => by
      by_cases hj : j = k
      · subst hj
        rw [this, List.getElem?_set_self (by rw [List.length_map]; exact hlt)]
      · rw [List.getElem?_set_ne (Ne.symm hj)]
  · by_cases hik : i = k
    · subst hik
      rw [List.getElem?_set_self hlt] at hi
      injection hi with hi
      subst hi
      refine ⟨fun _ => ?_, fun h => by omega⟩
      have q : Own3 w0.heap.size w1 (s, a, b, c) := ⟨ha, hb', hc'⟩
      exact ((q.apart hg1 (by decide) (by decide) _ _).apart (hg1.set_ _ _) (by decide) (by decide) _ _).apart ((hg1.set_ _ _).set_ _ _) (by decide) (by decide) _ _
    · rw [List.getElem?_set_ne (Ne.symm hik)] at hi
      refine ⟨fun hlt' => ?_, fun hge => (h3 i r hi).2 (by omega)⟩
      have q := ((h3 i r hi).1 (by omega)).below hb
      exact ((q.apart hg1 (by decide) (by decide) _ _).apart (hg1.set_ _ _) (by decide) (by decide) _ _).apart ((hg1.set_ _ _).set_ _ _) (by decide) (by decide) _ _
theorem TrsTo.at_ {w0 w : World} {v : Value} {S : List Tr} {k : Nat} (h : TrsTo w0 w v S k) (hk : k < S.length) : ∃ g cap cur vt va, v = .slice (some ⟨g, 0, none⟩) S.length cap ∧ S.length ≤ cap ∧ Blk w g 53 cur ∧ w0.heap.size ≤ g ∧ TrHas w0 vt va (S.getD k noTr) ∧
    (w.cell? ⟨g, k * 6 + 3, none⟩ = some vt ∧ w.cell? ⟨g, k * 6 + 5, none⟩ = some va) ∧
    (∀ (w1 : World) (a b : Value), Below w.heap.size w w1 → OwnInts w0.heap.size w1 a (S.getD k noTr).tgts → OwnActs w0.heap.size w1 b (S.getD k noTr).acts → TrsTo w0 ((w1.setCell ⟨g, k * 6 + 3, none⟩ a).setCell ⟨g, k * 6 + 5, none⟩ b) v S (k + 1)) := by
  obtain ⟨rs, h1, h2, h3⟩ := h
  have hl : rs.length = S.length := by rw [← h1, List.length_map]
  have hr := List.getElem?_eq_getElem (l := rs) (i := k) (by omega)
  generalize rs[k] = r at hr
  have hS : S.getD k noTr = r.1 := by rw [← h1]; simp [List.getD, hr]
  obtain ⟨g, cap, cur, rfl, hc, hB, hg, hce⟩ := h2.at_ hr
  obtain ⟨s, vt, va⟩ := r
  simp only at hS
  refine ⟨g, cap, cur, vt, va, by rw [hl], by omega, hg, hB, by rw [hS]; exact (h3 k _ hr).2 (Nat.le_refl _), ⟨(hce 3 _ rfl).1, (hce 5 _ rfl).1⟩, fun w1 a b hb ha hb' => ?_⟩
  rw [hS] at ha hb'
  have hlt : k < rs.length := by omega
  have e1 : rs.set k (s, a, b) = (rs.set k (s, a, va)).set k (s, a, b) := by rw [List.set_set]
  have hg1 := hg.below hb hg.lt
  have r1 := (h2.below hb).put (r' := (s, a, va)) (j := 3) (u := a) transCells_len hr (by decide) rfl
  have r2 := r1.put (r' := (s, a, b)) (j := 5) (u := b) transCells_len (List.getElem?_set_self hlt) (by decide) rfl
  rw [← e1] at r2
  refine ⟨rs.set k (s, a, b), ?_, r2, fun i r hi => ?_⟩
  · rw [List.map_set, ← h1]
    have : (rs.map fun r => r.1)[k]? = some s := by rw [List.getElem?_map, hr]; rfl
    exact List.ext_getElem? fun j => by
      by_cases hj : j = k
      · subst hj
        rw [this, List.getElem?_set_self (by rw [List.length_map]; exact hlt)]
      · rw [List.getElem?_set_ne (Ne.symm hj)]
  · by_cases hik : i = k
    · subst hik
      rw [List.getElem?_set_self hlt] at hi
      injection hi with hi
      subst hi
      refine ⟨fun _ => ?_, fun h => by omega⟩
      have q : Own2 w0.heap.size w1 (s, a, b) := ⟨ha, hb'⟩
      exact (q.apart hg1 (by decide) (by decide) _ _).apart (hg1.set_ _ _) (by decide) (by decide) _ _
    · rw [List.getElem?_set_ne (Ne.symm hik)] at hi
      refine ⟨fun hlt' => ?_, fun hge => (h3 i r hi).2 (by omega)⟩
      have q := ((h3 i r hi).1 (by omega)).below hb
      exact (q.apart hg1 (by decide) (by decide) _ _).apart (hg1.set_ _ _) (by decide) (by decide) _ _
end Go.Proofs.YtdkmloldajhdaaaGreatDoor
