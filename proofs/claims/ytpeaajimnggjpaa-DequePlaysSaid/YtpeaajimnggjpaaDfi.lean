/- Deque's Push, Pop, Steal and Len, at numbers and at texts. -/
import Derived.Test.YtpeaajimnggjpaaDgen
import Derived.Shelf.RegionOpenPlain
import Derived.Deep.LoopGhost
import Derived.Deep.RegionLaw
import Derived.Lib.Walk
namespace Go.Proofs.Ytpeaajimnggjpaa
open Go.ChangeShapes Go.WideShapes Go.ChangeAt Go.RowKit
set_option linter.unusedVariables false

theorem set_zero (w : World) (g o : Nat) (z : Value) : w.setCells g o (List.replicate 1 z) = w.setCell ⟨g, o, none⟩ z := rfl
theorem Try.info3 : (Try.prog.info? 3).map (fun i => (i.zero, i.size, i.bytes)) = some (some (.int .i64 0), 1, 8) := by kernel_rfl
theorem zero3 (w : World) : (zeroValue 3).run Try.prog w = .ok (.int .i64 0) w := by kernel_rfl
set_option maxHeartbeats 2000000 in
set_option maxRecDepth 100000 in
theorem pushI_any (B h : Nat) (v : Value) (L : List Value) (x : Int) (w : World) (hd : DqAt B w h 26 3 v L) (hl : L.length ≤ 1000) (hB : B ≤ w.heap.size) :
    Calls Try.prog 7 #[.pointer (some ⟨h, 0, none⟩), .int .i64 x] w fun e w' => e = .returned (.tuple #[]) ∧ DqPost B h 26 3 v (L ++ [.int .i64 x]) w w' := by
  obtain ⟨i0, hi0, hz0, hz1, hz2⟩ := info_parts Try.info3
  obtain ⟨A, cap, rfl⟩ := hd.row.slice
  have c0 : w.cell? ⟨h, 0, none⟩ = some (.slice A L.length cap) := hd.box.cell 0
  have f0 := hd.box.frozen 0
  have HD := Lib.hid hd
  have HI := Lib.hid hi0
  have HZ0 := Lib.hid hz0
  have HZ1 := Lib.hid hz1
  have HZ2 := Lib.hid hz2
  have HRA := Lib.hid (hd.row.below (below_box w (.cells #[.int .i64 x] 3)))
  have HBN := Lib.hid (Blk.new w 3 #[.int .i64 x])
  have HBB : Hid (B ≤ (w.alloc (.cells #[.int .i64 x] 3)).heap.size) := Lib.hid (by simp; omega)
  clear hd hi0 hz0 hz1 hz2 hB
  go_enter Try.func7, Try.ntmps7
  go_wp2_with (at_builtin; refine wpList_append_inV rfl _ _ 24 rfl B 3 i0 (.int .i64 0) 8 Try.underlying24 HI.out HZ0.out HZ1.out HZ2.out rfl _ _ rfl HRA.out ⟨w.heap.size, 0, none⟩ 1 (.int .i64 x) rfl rfl (HBN.out.cell 0) ?c3 ?c4 HBB.out ?_)
  case c3 => unfold maxLen; omega
  case c4 => omega
  intro v' w4 hown hgrow hloc
  obtain ⟨A', cap', hv'⟩ := hown.slice
  rw [List.length_append, List.length_singleton] at hv'
  have hk : KB (fun b => (Value.slice A L.length cap).ownBlock = some b) w w4 := (KB.of_below (below_box w _)).trans (KB.of_grown hgrow fun b hb => hb)
  have HF := Lib.hid (HD.out.put (by decide) hown hk fun k hk => (hloc k hk).imp id fun h => by first | omega | (simp at h; omega))
  have hb4 : Blk w4 h 26 #[_] := HD.out.box.kb hk fun hc => HD.out.row.else_ HD.out.box (by decide) hc
  have c04 := hb4.cell 0
  have f04 := hb4.frozen 0
  subst hv'
  clear hown hgrow hloc hk hb4 c0 f0
  go_wp2_with fail
  go_end0
  exact ⟨rfl, HF.out⟩
set_option maxHeartbeats 2000000 in
set_option maxRecDepth 100000 in
theorem popI_none (B h : Nat) (v : Value) (w : World) (hd : DqAt B w h 26 3 v []) :
    Calls Try.prog 8 #[.pointer (some ⟨h, 0, none⟩)] w fun e w' => e = .returned (.tuple #[.int .i64 0, .bool false]) ∧ w' = w := by
  obtain ⟨A, cap, rfl⟩ := hd.row.slice
  have c0 : w.cell? ⟨h, 0, none⟩ = some (.slice A 0 cap) := hd.box.cell 0
  have f0 := hd.box.frozen 0
  clear hd
  go_enter Try.func8, Try.ntmps8
  go_wp2_with fail
  go_ret2
  exact ⟨rfl, rfl⟩
set_option maxHeartbeats 2000000 in
set_option maxRecDepth 100000 in
theorem popI_some (B h : Nat) (v : Value) (K : List Value) (x : Int) (w : World) (hd : DqAt B w h 26 3 v (K ++ [.int .i64 x])) (hl : K.length ≤ 1000) :
    Calls Try.prog 8 #[.pointer (some ⟨h, 0, none⟩)] w fun e w' => e = .returned (.tuple #[.int .i64 x, .bool true]) ∧ DqPost B h 26 3 v K w w' := by
  obtain ⟨g, o, cap, cur, rfl, hBg, hb, hnc, hs, ht⟩ : ∃ g o cap cur, v = .slice (some ⟨g, o, none⟩) (K.length + 1) cap ∧ B ≤ g ∧ Blk w g 3 cur ∧ K.length + 1 ≤ cap ∧ o + cap ≤ cur.size ∧ (cur.toList.drop o).take (K.length + 1) = K ++ [.int .i64 x] := by
    rcases hd.row with ⟨_, h0⟩ | ⟨g, o, cap, cur, h1, h2, h3, h4, h5, h6⟩
    · simp at h0
    · rw [List.length_append, List.length_singleton] at h1 h4 h6
      exact ⟨g, o, cap, cur, h1, h2, h3, h4, h5, h6⟩
  have c0 : w.cell? ⟨h, 0, none⟩ = some (.slice (some ⟨g, o, none⟩) (K.length + 1) cap) := hd.box.cell 0
  have f0 := hd.box.frozen 0
  have c1 : w.cell? ⟨g, o + K.length, none⟩ = some (.int .i64 x) := cut_cell hb ht (by simp)
  have f1 := hb.frozen (o + K.length)
  obtain ⟨W1, hW1⟩ : ∃ W1, W1 = w.setCell ⟨g, o + K.length, none⟩ (.int .i64 0) := ⟨_, rfl⟩
  have hcl : ∀ ty, (Builtin.clear_ #[24] ty #[.slice (some ⟨g, o + K.length, none⟩) 1 (cap - K.length)]).run Try.prog w = .ok (.tuple #[]) W1 := fun ty => by
    rw [hW1, ← set_zero]
    exact Lib.run_clear_slice w 24 3 ty _ Try.underlying24 zero3 rfl rfl g (o + K.length) 1 _ (by omega) (fun t ht => by
      have e : t = 0 := by omega
      rw [e, Nat.add_zero, c1]
      rfl) (fun t _ => hb.frozen _)
  have hkk : KB (fun b => (Value.slice (some ⟨g, o, none⟩) (K.length + 1) cap).ownBlock = some b) w W1 := by
    rw [hW1]
    exact KB.of_grown (grown_set w g _ _) fun b hb => hb
  have hr1 : InV W1 B 3 (.slice (some ⟨g, o, none⟩) K.length cap) K := by
    rw [hW1]
    exact InV.pop (x := .int .i64 x) (by simpa using hd.row) _
  have HF := Lib.hid (hd.put (by decide) hr1 hkk fun k hk => .inl hk)
  have hb1 : Blk W1 h 26 #[_] := hd.box.kb hkk fun hc => hd.row.else_ hd.box (by decide) hc
  have c01 := hb1.cell 0
  have f01 := hb1.frozen 0
  have hlen : ((K.length : Int) + 1 == 0) = false := beq_false_of_ne (by omega)
  have hlen2 : ¬ ((K.length : Int) + 1 = 0) := by omega
  have hwl : IntKind.i64.wrap ((K.length : Int) + 1 - 1) = (K.length : Int) := by rw [IntKind.wrap_i64]; omega
  have hlt : K.length < cap := by omega
  have hltz : (K.length : Int) < (cap : Int) := by omega
  have hltw : (K.length : Int) < (K.length : Int) + 1 := by omega
  have hlez : (K.length : Int) + 1 ≤ (cap : Int) := by omega
  have hle1 : (K.length : Int) ≤ (K.length : Int) + 1 := by omega
  have hle2 : (K.length : Int) ≤ (cap : Int) := by omega
  clear hd hb ht hs hkk hr1 hb1 hW1
  go_enter Try.func8, Try.ntmps8
  go_wp2_with fail
  go_ret2
  exact ⟨rfl, HF.out⟩
set_option maxHeartbeats 2000000 in
set_option maxRecDepth 100000 in
theorem stealI_none (B h : Nat) (v : Value) (w : World) (hd : DqAt B w h 26 3 v []) :
    Calls Try.prog 9 #[.pointer (some ⟨h, 0, none⟩)] w fun e w' => e = .returned (.tuple #[.int .i64 0, .bool false]) ∧ w' = w := by
  obtain ⟨A, cap, rfl⟩ := hd.row.slice
  have c0 : w.cell? ⟨h, 0, none⟩ = some (.slice A 0 cap) := hd.box.cell 0
  have f0 := hd.box.frozen 0
  clear hd
  go_enter Try.func9, Try.ntmps9
  go_wp2_with fail
  go_ret2
  exact ⟨rfl, rfl⟩
set_option maxHeartbeats 2000000 in
set_option maxRecDepth 100000 in
theorem stealI_some (B h : Nat) (v : Value) (K : List Value) (x : Int) (w : World) (hd : DqAt B w h 26 3 v (.int .i64 x :: K)) (hl : K.length ≤ 1000) :
    Calls Try.prog 9 #[.pointer (some ⟨h, 0, none⟩)] w fun e w' => e = .returned (.tuple #[.int .i64 x, .bool true]) ∧ DqPost B h 26 3 v K w w' := by
  obtain ⟨g, o, cap, cur, rfl, hBg, hb, hnc, hs, ht⟩ : ∃ g o cap cur, v = .slice (some ⟨g, o, none⟩) (K.length + 1) cap ∧ B ≤ g ∧ Blk w g 3 cur ∧ K.length + 1 ≤ cap ∧ o + cap ≤ cur.size ∧ (cur.toList.drop o).take (K.length + 1) = .int .i64 x :: K := by
    rcases hd.row with ⟨_, h0⟩ | ⟨g, o, cap, cur, h1, h2, h3, h4, h5, h6⟩
    · simp at h0
    · rw [List.length_cons] at h1 h4 h6
      exact ⟨g, o, cap, cur, h1, h2, h3, h4, h5, h6⟩
  have c0 : w.cell? ⟨h, 0, none⟩ = some (.slice (some ⟨g, o, none⟩) (K.length + 1) cap) := hd.box.cell 0
  have f0 := hd.box.frozen 0
  have c1 : w.cell? ⟨g, o, none⟩ = some (.int .i64 x) := cut_cell (j := 0) hb ht rfl
  have f1 := hb.frozen o
  obtain ⟨W1, hW1⟩ : ∃ W1, W1 = w.setCell ⟨g, o, none⟩ (.int .i64 0) := ⟨_, rfl⟩
  have hcl : ∀ ty, (Builtin.clear_ #[24] ty #[.slice (some ⟨g, o, none⟩) 1 cap]).run Try.prog w = .ok (.tuple #[]) W1 := fun ty => by
    rw [hW1, ← set_zero]
    exact Lib.run_clear_slice w 24 3 ty _ Try.underlying24 zero3 rfl rfl g o 1 _ (by omega) (fun t ht => by
      have e : t = 0 := by omega
      rw [e, Nat.add_zero, c1]
      rfl) (fun t _ => hb.frozen _)
  have hkk : KB (fun b => (Value.slice (some ⟨g, o, none⟩) (K.length + 1) cap).ownBlock = some b) w W1 := by
    rw [hW1]
    exact KB.of_grown (grown_set w g _ _) fun b hb => hb
  have hr1 : InV W1 B 3 (.slice (some ⟨g, if cap = 1 then o else o + 1, none⟩) K.length (cap - 1)) K := by
    rw [hW1]
    exact InV.tail (hd.row.clr _)
  have HF := Lib.hid (hd.put (by decide) hr1 hkk fun k hk => .inl hk)
  have hb1 : Blk W1 h 26 #[_] := hd.box.kb hkk fun hc => hd.row.else_ hd.box (by decide) hc
  have c01 := hb1.cell 0
  have f01 := hb1.frozen 0
  have hlen : ((K.length : Int) + 1 == 0) = false := beq_false_of_ne (by omega)
  have hlen2 : ¬ ((K.length : Int) + 1 = 0) := by omega
  have h0lt : 0 < K.length + 1 := by omega
  have hlez : (1 : Int) ≤ (cap : Int) := by omega
  have hle1 : (1 : Int) ≤ (K.length : Int) + 1 := by omega
  have hl2 : (K.length : Int) + 1 ≤ (cap : Int) := by omega
  clear hd hb ht hs hkk hr1 hb1 hW1
  by_cases hc1 : cap = 1
  · rw [if_pos hc1] at HF
    subst hc1
    obtain rfl : K = [] := List.eq_nil_of_length_eq_zero (by omega)
    go_enter Try.func9, Try.ntmps9
    go_wp2_with fail
    go_ret2
    exact ⟨rfl, HF.out⟩
  · rw [if_neg hc1] at HF
    go_enter Try.func9, Try.ntmps9
    go_wp2_with fail
    go_ret2
    exact ⟨rfl, HF.out⟩
set_option maxRecDepth 100000 in
theorem lenI_any (B h : Nat) (v : Value) (L : List Value) (w : World) (hd : DqAt B w h 26 3 v L) :
    Calls Try.prog 10 #[.pointer (some ⟨h, 0, none⟩)] w fun e w' => e = .returned (.int .i64 (L.length : Int)) ∧ w' = w := by
  obtain ⟨A, cap, rfl⟩ := hd.row.slice
  have c0 : w.cell? ⟨h, 0, none⟩ = some (.slice A L.length cap) := hd.box.cell 0
  have f0 := hd.box.frozen 0
  clear hd
  go_enter Try.func10, Try.ntmps10
  go_wp2_with fail
  go_ret
  exact ⟨rfl, rfl⟩
end Go.Proofs.Ytpeaajimnggjpaa
