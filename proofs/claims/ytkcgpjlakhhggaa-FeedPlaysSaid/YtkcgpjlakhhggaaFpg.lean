/- The feed beside the law's own rows. -/
import Derived.Test.YtkcgpjlakhhggaaFhd
import Derived.Test.YtkcgpjlakhhggaaFarg
namespace Go.Proofs.Ytkcgpjlakhhggaa
open Go.ChangeShapes Go.WideShapes Go.ChangeAt Go.RowKit
set_option linter.unusedVariables false

def ints (fr : List Nat) : List Int := fr.map fun (n : Nat) => Int.ofNat n
theorem ints_len (fr : List Nat) : (ints fr).length = fr.length := by simp [ints]
theorem ints_app (fr : List Nat) (n : Nat) : ints (fr ++ [n]) = ints fr ++ [(n : Int)] := by simp [ints]
theorem ints_set (fr : List Nat) (i n : Nat) : ints (fr.set i n) = (ints fr).set i (n : Int) := by unfold ints; rw [List.map_set]; rfl
structure PG (W0 : Nat) (w : World) (g room : Nat) (rv : Value) (us : List (Value × Rd)) (s8 s9 : Value) (all : List Int) (fr : List Nat) : Prop where
  feed : FeAt W0 w g room rv us
  row8 : w.ownsRow W0 2 1 s8 all.length (intVals all)
  row9 : w.ownsRow W0 3 1 s9 fr.length (intVals (ints fr))
  apart8 : ∀ b, s8.ownBlock = some b → ¬ Own g rv us b
  apart9 : ∀ b, s9.ownBlock = some b → ¬ Own g rv us b
theorem PG.call {W0 g room : Nat} {w w' : World} {rv rv' : Value} {us us' : List (Value × Rd)} {s8 s9 : Value} {all : List Int} {fr : List Nat} (h : PG W0 w g room rv us s8 s9 all fr) (hF : FeAt W0 w' g room rv' us') (hk : KB (Own g rv us) w w') (ho : ∀ b, Own g rv' us' b → Own g rv us b ∨ w.heap.size ≤ b) :
    PG W0 w' g room rv' us' s8 s9 all fr := by
  refine ⟨hF, own_kb h.row8 hk h.apart8, own_kb h.row9 hk h.apart9, fun b hb hc => ?_, fun b hb hc => ?_⟩
  · rcases ho b hc with h1 | h1
    · exact h.apart8 b hb h1
    · have := (own_lt h.row8 hb).2
      omega
  · rcases ho b hc with h1 | h1
    · exact h.apart9 b hb h1
    · have := (own_lt h.row9 hb).2
      omega
theorem PG.frame {W0 g room : Nat} {a w w' : World} {rv : Value} {us : List (Value × Rd)} {s8 s9 : Value} {all : List Int} {fr : List Nat} (h : PG W0 w g room rv us s8 s9 all fr) (ha : W0 = a.heap.size) (hb : Below a.heap.size a w) (hk : KB (Own g rv us) w w') : Below a.heap.size a w' :=
  below_kb hb hk (fun b hc => by rw [← ha]; exact (h.feed.own_lt b hc).1)
theorem PG.below {W0 g room : Nat} {w w' : World} {rv : Value} {us : List (Value × Rd)} {s8 s9 : Value} {all : List Int} {fr : List Nat} (h : PG W0 w g room rv us s8 s9 all fr) (hb : Below w.heap.size w w') : PG W0 w' g room rv us s8 s9 all fr :=
  ⟨h.feed.below hb, own_below h.row8 hb, own_below h.row9 hb, h.apart8, h.apart9⟩
theorem PG.app8 {W0 g room : Nat} {x : Int} {w w4 : World} {rv v' : Value} {us : List (Value × Rd)} {s8 s9 : Value} {all : List Int} {fr : List Nat} (h : PG W0 w g room rv us s8 s9 all fr)
    (hown : w4.ownsRow W0 2 1 v' (all.length + 1) (intVals all ++ [.int .i64 x])) (hg : (w.alloc (.cells #[.int .i64 x] 2)).grownBy w4 s8.ownBlock) (hloc : v'.ownBlock = s8.ownBlock ∨ v'.ownBlock = some (w.alloc (.cells #[.int .i64 x] 2)).heap.size) :
    PG W0 w4 g room rv us v' s9 (all ++ [x]) fr ∧ ∀ a : World, W0 = a.heap.size → Below a.heap.size a w → Below a.heap.size a w4 := by
  have hk : KB (fun b => s8.ownBlock = some b) w w4 := (KB.of_below (below_box w _)).trans (KB.of_grown hg fun b hb => hb)
  refine ⟨⟨h.feed.kb hk (fun b hb hc => h.apart8 b hc hb), by rw [List.length_append, intVals_app]; exact hown, own_kb h.row9 hk ?_, fun b hb hc => ?_, h.apart9⟩, fun a ha hb => below_kb hb hk (fun b hc => by rw [← ha]; exact (own_lt h.row8 hc).1)⟩
  · intro b hb hc
    rcases own_own h.row9 h.row8 (by decide) with h1 | h1
    · rw [h1] at hb; cases hb
    · exact h1 (by rw [hb, hc])
  · rcases hloc with h1 | h1
    · exact h.apart8 b (by rw [← h1, hb]) hc
    · rw [hb] at h1
      injection h1 with h1
      have := (h.feed.own_lt b hc).2
      simp at h1
      omega
theorem PG.app9 {W0 g room x : Nat} {w w4 : World} {rv v' : Value} {us : List (Value × Rd)} {s8 s9 : Value} {all : List Int} {fr : List Nat} (h : PG W0 w g room rv us s8 s9 all fr)
    (hown : w4.ownsRow W0 3 1 v' (fr.length + 1) (intVals (ints fr) ++ [.int .i64 (x : Int)])) (hg : (w.alloc (.cells #[.int .i64 (x : Int)] 3)).grownBy w4 s9.ownBlock) (hloc : v'.ownBlock = s9.ownBlock ∨ v'.ownBlock = some (w.alloc (.cells #[.int .i64 (x : Int)] 3)).heap.size) :
    PG W0 w4 g room rv us s8 v' all (fr ++ [x]) ∧ ∀ a : World, W0 = a.heap.size → Below a.heap.size a w → Below a.heap.size a w4 := by
  have hk : KB (fun b => s9.ownBlock = some b) w w4 := (KB.of_below (below_box w _)).trans (KB.of_grown hg fun b hb => hb)
  refine ⟨⟨h.feed.kb hk (fun b hb hc => h.apart9 b hc hb), own_kb h.row8 hk ?_, by rw [List.length_append, ints_app, intVals_app]; exact hown, h.apart8, fun b hb hc => ?_⟩, fun a ha hb => below_kb hb hk (fun b hc => by rw [← ha]; exact (own_lt h.row9 hc).1)⟩
  · intro b hb hc
    rcases own_own h.row8 h.row9 (by decide) with h1 | h1
    · rw [h1] at hb; cases hb
    · exact h1 (by rw [hb, hc])
  · rcases hloc with h1 | h1
    · exact h.apart9 b (by rw [← h1, hb]) hc
    · rw [hb] at h1
      injection h1 with h1
      have := (h.feed.own_lt b hc).2
      simp at h1
      omega
theorem PG.set9 {W0 g room g9 n cap i x : Nat} {w : World} {rv : Value} {us : List (Value × Rd)} {s8 : Value} {all : List Int} {fr : List Nat} (h : PG W0 w g room rv us s8 (.slice (some ⟨g9, 0, none⟩) n cap) all fr) (hi : i < fr.length) :
    PG W0 (w.setCell ⟨g9, i, none⟩ (.int .i64 (x : Int))) g room rv us s8 (.slice (some ⟨g9, 0, none⟩) n cap) all (fr.set i x) ∧ ∀ a : World, W0 = a.heap.size → Below a.heap.size a w → Below a.heap.size a (w.setCell ⟨g9, i, none⟩ (.int .i64 (x : Int))) := by
  have hk : KB (fun b => b = g9) w (w.setCell ⟨g9, i, none⟩ (.int .i64 (x : Int))) := KB.of_grown (grown_set w g9 i _) fun b hb => by injection hb with hb; exact hb.symm
  refine ⟨⟨h.feed.kb hk (fun b hb hc => h.apart9 b (by rw [hc]; rfl) hb), own_kb h.row8 hk ?_, ?_, h.apart8, h.apart9⟩, fun a ha hb => below_kb hb hk (fun b hc => by rw [← ha, hc]; exact (own_lt h.row9 rfl).1)⟩
  · rintro b hb rfl
    rcases own_own h.row8 h.row9 (by decide) with h1 | h1
    · rw [h1] at hb; cases hb
    · exact h1 (by rw [hb]; rfl)
  · have := own_set (x := (x : Int)) (i := i) (L := ints fr) (by rw [ints_len]; exact h.row9) (by rw [ints_len]; exact hi)
    rw [← ints_set, ints_len] at this
    exact this
theorem PG.cell9 {W0 g room g9 n cap i f : Nat} {w : World} {rv : Value} {us : List (Value × Rd)} {s8 : Value} {all : List Int} {fr : List Nat} (h : PG W0 w g room rv us s8 (.slice (some ⟨g9, 0, none⟩) n cap) all fr) (hf : fr[i]? = some f) :
    w.cell? ⟨g9, i, none⟩ = some (.int .i64 (f : Int)) ∧ w.frozen? ⟨g9, i, none⟩ = false := by
  rcases h.row9.2 with ⟨h0, _⟩ | ⟨g', cap', cur, h1, hB, hg, hc, hm, hs, ht⟩
  · cases h0
  · injection h1 with e1 e2 e3
    injection e1 with e1
    injection e1 with e4
    subst e4; subst e3
    have hl := (List.getElem?_eq_some_iff.1 hf).1
    refine ⟨?_, Blk.frozen hg i⟩
    rw [Blk.cell hg]
    have h1 : (cur.toList.take (fr.length * 1))[i]? = (intVals (ints fr))[i]? := by rw [ht]
    rw [List.getElem?_take, if_pos (by omega), Array.getElem?_toList] at h1
    rw [h1]
    simp [intVals, ints, hf]
theorem one_at' {t : TypeId} {w : World} {g : Nat} {x : Int} (h : Blk w g t #[.int .i64 x]) : ∀ j u, [Value.int .i64 x][j]? = some u → w.cell? ((⟨g, 0, none⟩ : Addr).add j) = some u := by
  intro j u hj
  rw [flat_add, h.cell, Nat.zero_add]
  simpa using hj
theorem Try.info3 : (Try.prog.info? 3).map (fun i => (i.zero, i.size, i.bytes)) = some (some (.int .i64 0), 1, 8) := by kernel_rfl
/-- how all readers stand -/
def Told (room : Nat) (us : List (Value × Rd)) (all : List Int) (fr : List Nat) : Prop := rds us = fr.map (rdOf room all) ∧ ∀ f ∈ fr, f ≤ all.length
theorem Told.add {room : Nat} {us us' : List (Value × Rd)} {all : List Int} {fr : List Nat} {x : Int} (h : Told room us all fr) (h1 : 1 ≤ room) (hr : rds us' = (rds us).map (addR room x)) : Told room us' (all ++ [x]) fr := by
  refine ⟨?_, fun f hf => by have := h.2 f hf; rw [List.length_append]; omega⟩
  rw [hr, h.1, List.map_map]
  refine List.map_congr_left fun f hf => ?_
  exact rdOf_add x h1 (h.2 f hf)
theorem Told.more {room : Nat} {us : List (Value × Rd)} {all : List Int} {fr : List Nat} (h : Told room us all fr) : Told room (us ++ [rd0]) all (fr ++ [all.length]) := by
  refine ⟨?_, fun f hf => ?_⟩
  · unfold rds
    rw [List.map_append, List.map_append]
    have := h.1
    unfold rds at this
    rw [this]
    simp [rdOf_new]
  · rcases List.mem_append.1 hf with h1 | h1
    · exact h.2 f h1
    · obtain rfl := List.mem_singleton.1 h1
      exact Nat.le_refl _
theorem Told.poll {room i : Nat} {us : List (Value × Rd)} {all : List Int} {fr : List Nat} (h : Told room us all fr) : Told room (us.set i rd0) all (fr.set i all.length) := by
  refine ⟨?_, fun f hf => ?_⟩
  · rw [rds_set, h.1, List.map_set, rdOf_new]
  · rcases List.mem_or_eq_of_mem_set hf with h1 | h1
    · exact h.2 f h1
    · omega
theorem Told.len {room : Nat} {us : List (Value × Rd)} {all : List Int} {fr : List Nat} (h : Told room us all fr) : us.length = fr.length := by
  have := congrArg List.length h.1
  rw [rds_len, List.length_map] at this
  exact this
theorem Told.fit {room : Nat} {us : List (Value × Rd)} {all : List Int} {fr : List Nat} (h : Told room us all fr) (h8 : fr.length ≤ 8) (hl : all.length ≤ 1000) : Fit room (rds us) := by
  refine ⟨by rw [rds_len, h.len]; exact h8, fun r hr => ?_⟩
  rw [h.1] at hr
  obtain ⟨f, hf, rfl⟩ := List.mem_map.1 hr
  have := rdOf_fit (room := room) (h.2 f hf)
  omega
theorem Told.one {room i f : Nat} {us : List (Value × Rd)} {all : List Int} {fr : List Nat} (h : Told room us all fr) (hf : fr[i]? = some f) : ∃ v, us[i]? = some (v, rdOf room all f) := by
  have h1 : (rds us)[i]? = some (rdOf room all f) := by rw [h.1, List.getElem?_map, hf]; rfl
  unfold rds at h1
  rw [List.getElem?_map] at h1
  obtain ⟨u, hu, e⟩ := Option.map_eq_some_iff.1 h1
  exact ⟨u.1, by rw [hu, ← e]⟩
end Go.Proofs.Ytkcgpjlakhhggaa
