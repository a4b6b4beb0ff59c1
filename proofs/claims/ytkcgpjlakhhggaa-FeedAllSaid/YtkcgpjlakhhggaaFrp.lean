/- New, Read and Poll. -/
import Derived.Test.YtkcgpjlakhhggaaFae
import Derived.BigQuiet
namespace Go.Proofs.Ytkcgpjlakhhggaa
open Go.ChangeShapes Go.WideShapes Go.ChangeAt Go.RowKit
set_option linter.unusedVariables false

abbrev errV (c : Int) : Value := .iface 29 (.int .i64 c)
abbrev rd0 : Value × Rd := (.slice none 0 0, ⟨[], 0⟩)
theorem new_ok (r : Nat) (w : World) (h1 : 1 ≤ r) (h2 : r ≤ 100) : Calls Try.prog 6 #[.int .i64 (r : Int)] w fun e w' => e = .returned (.tuple #[.pointer (some ⟨w.heap.size, 0, none⟩), .nilIface]) ∧ FeAt w.heap.size w' w.heap.size r (.slice none 0 0) [] ∧ Below w.heap.size w w' := by
  have a1 : ¬ (r : Int) < 1 := by omega
  have a2 : ¬ 100 < (r : Int) := by omega
  go_enter Try.func6, Try.ntmps6
  go_wp2_with fail
  go_ret2
  exact ⟨rfl, ⟨Blk.new w 45 _, World.ownsRow_nil _ _ _ _, fun u hu => (by cases hu), fun i j u u' hi => (by simp at hi), Nat.le_refl _⟩, below_box w _⟩
theorem new_bad (r : Int) (w : World) (h : r < 1 ∨ 100 < r) : Calls Try.prog 6 #[.int .i64 r] w fun e w' => e = .returned (.tuple #[.pointer none, errV 1]) ∧ w' = w := by
  rcases h with h | h
  · go_enter Try.func6, Try.ntmps6
    go_wp2_with fail
    go_ret2
    exact ⟨rfl, rfl⟩
  · have a1 : ¬ r < 1 := by omega
    go_enter Try.func6, Try.ntmps6
    go_wp2_with fail
    go_ret2
    exact ⟨rfl, rfl⟩
theorem Try.info47 : (Try.prog.info? 47).map (fun i => (i.zero, i.size, i.bytes)) = some (some (.agg #[.slice none 0 0, .int .i64 0]), 2, 32) := by kernel_rfl
theorem zero47 (w : World) : (zeroValue 47).run Try.prog w = .ok (.agg #[.slice none 0 0, .int .i64 0]) w := by kernel_rfl
theorem rowU_snoc (us : List (Value × Rd)) (u : Value × Rd) : rowU (us ++ [u]) = rowU us ++ encU u := by simp [rowU]
theorem read_full (B g room : Nat) (rv : Value) (us : List (Value × Rd)) (w : World) (hF : FeAt B w g room rv us) (h8 : us.length = 8) :
    Calls Try.prog 9 #[.pointer (some ⟨g, 0, none⟩)] w fun e w' => e = .returned (.tuple #[.int .i64 0, errV 6]) ∧ w' = w := by
  have c1 := hF.c1
  obtain ⟨A, cap, rfl⟩ := slice_own hF.row
  rw [h8] at c1
  clear hF h8
  go_enter Try.func9, Try.ntmps9
  go_wp2_with fail
  go_ret2
  exact ⟨rfl, rfl⟩
theorem FeAt.more {B g room : Nat} {rv v' : Value} {us : List (Value × Rd)} {w w4 : World} (hF : FeAt B w g room rv us) (hown : w4.ownsRow B 47 2 v' (us.length + 1) (rowU us ++ encU rd0)) (hg : (w.alloc (.cells #[.slice none 0 0, .int .i64 0] 47)).grownBy w4 rv.ownBlock)
    (hloc : v'.ownBlock = rv.ownBlock ∨ v'.ownBlock = some (w.alloc (.cells #[.slice none 0 0, .int .i64 0] 47)).heap.size) :
    FeAt B (w4.setCell ⟨g, 1, none⟩ v') g room v' (us ++ [rd0]) ∧ KB (Own g rv us) w (w4.setCell ⟨g, 1, none⟩ v') ∧ ∀ b, Own g v' (us ++ [rd0]) b → Own g rv us b ∨ w.heap.size ≤ b := by
  have hb4 : Blk w4 g 45 #[.int .i64 (room : Int), rv] := (hF.blk.alloc (.cells #[.slice none 0 0, .int .i64 0] 47)).grown hg (fun hc => own_else hF.row hF.blk (by decide) hc.symm)
  have hk : KB (fun b => b = g ∨ rv.ownBlock = some b) w (w4.setCell ⟨g, 1, none⟩ v') := ((KB.of_below (below_box w _)).trans (KB.of_grown hg fun b hb => .inr hb)).trans (KB.of_grown (grown_set w4 g 1 v') fun b hb => by injection hb with hb; exact .inl hb.symm)
  refine ⟨⟨hb4.set_ 1 v', ?_, ?_, ?_, hF.Bg⟩, ?_, ?_⟩
  · rw [rowU_snoc, List.length_append]
    exact own_apart hown hb4 (by decide) 1 v'
  · intro u hu
    rcases List.mem_append.1 hu with hu | hu
    · refine own_kb (hF.kept u hu) hk ?_
      rintro b hb (e | e)
      · subst e
        exact own_else (hF.kept u hu) hF.blk (by decide) hb
      · rcases own_own (hF.kept u hu) hF.row (by decide) with h1 | h1
        · rw [h1] at hb; cases hb
        · exact h1 (by rw [hb, e])
    · obtain rfl := List.mem_singleton.1 hu
      exact World.ownsRow_nil _ _ _ _
  · intro i j u u' hi hj hne b hb
    by_cases h1 : i < us.length
    · rw [List.getElem?_append_left h1] at hi
      by_cases h2 : j < us.length
      · rw [List.getElem?_append_left h2] at hj
        exact hF.apart i j u u' hi hj hne b hb
      · rw [List.getElem?_append_right (by omega)] at hj
        obtain rfl := List.mem_singleton.1 (List.mem_of_getElem? hj)
        intro hc
        cases hc
    · rw [List.getElem?_append_right (by omega)] at hi
      obtain rfl := List.mem_singleton.1 (List.mem_of_getElem? hi)
      cases hb
  · refine hk.wide fun b _ hb => ?_
    rcases hb with hb | hb
    · exact .inl hb
    · exact .inr (.inl hb)
  · rintro b (hb | hb | ⟨u, hu, hb⟩)
    · exact .inl (.inl hb)
    · rcases hloc with h1 | h1
      · exact .inl (.inr (.inl (by rw [← h1, hb])))
      · rw [hb] at h1
        injection h1 with h1
        refine .inr ?_
        rw [h1]
        simp
    · rcases List.mem_append.1 hu with hu | hu
      · exact .inl (.inr (.inr ⟨u, hu, hb⟩))
      · obtain rfl := List.mem_singleton.1 hu
        cases hb
theorem rd0_at {w : World} {g : Nat} (h : Blk w g 47 #[.slice none 0 0, .int .i64 0]) : ∀ j u, (encU rd0)[j]? = some u → w.cell? ((⟨g, 0, none⟩ : Addr).add j) = some u := by
  intro j u hj
  rw [flat_add, h.cell, Nat.zero_add]
  simpa [encU] using hj
theorem rd0_one : ∀ u ∈ encU rd0, u.oneCell' = true := by
  intro u hu
  simp [encU] at hu
  rcases hu with rfl | rfl <;> rfl
def ReadPost (B g room : Nat) (rv : Value) (us : List (Value × Rd)) (w : World) (e : Ending) (w' : World) : Prop := e = .returned (.tuple #[.int .i64 (us.length : Int), .nilIface]) ∧ ∃ v', FeAt B w' g room v' (us ++ [rd0]) ∧ KB (Own g rv us) w w' ∧ ∀ b, Own g v' (us ++ [rd0]) b → Own g rv us b ∨ w.heap.size ≤ b
set_option maxHeartbeats 2000000 in
set_option maxRecDepth 100000 in
theorem read_ok (B g room : Nat) (rv : Value) (us : List (Value × Rd)) (w : World) (hF : FeAt B w g room rv us) (h8 : us.length < 8) :
    Calls Try.prog 9 #[.pointer (some ⟨g, 0, none⟩)] w fun e w' => ReadPost B g room rv us w e w' := by
  obtain ⟨i0, hi0, hz0, hz1, hz2⟩ := info_parts Try.info47
  have HI := Lib.hid hi0
  have HZ0 := Lib.hid hz0
  have HZ1 := Lib.hid hz1
  have HZ2 := Lib.hid hz2
  have c1 := hF.c1
  obtain ⟨A, cap, rfl⟩ := slice_own hF.row
  obtain ⟨n, hn⟩ : ∃ n, n = us.length := ⟨_, rfl⟩
  have HN := Lib.hid hn
  rw [← hn] at hF c1 h8
  have hne : ((n : Int) == 8) = false := beq_false_of_ne (by omega)
  have HF := Lib.hid hF
  have HRA := Lib.hid (own_below hF.row (below_box w (.cells #[.slice none 0 0, .int .i64 0] 47)))
  have HBN := Lib.hid (Blk.new w 47 #[.slice none 0 0, .int .i64 0])
  have HBB : Hid (B ≤ (w.alloc (.cells #[.slice none 0 0, .int .i64 0] 47)).heap.size) := Lib.hid (by have := hF.Bg; have := hF.blk.lt; simp; omega)
  have hzz := zero47
  unfold ReadPost
  rw [← hn] at HRA ⊢
  clear hF hi0 hz0 hz1 hz2 hn
  go_enter Try.func9, Try.ntmps9
  go_wp2_with (at_builtin; refine wpList_append_own_at _ rfl _ _ 43 rfl B 47 i0 (.agg #[.slice none 0 0, .int .i64 0]) 2 32 Try.underlying43 HI.out HZ0.out HZ1.out HZ2.out rfl (by decide) _ _ _ rfl HRA.out ⟨w.heap.size, 0, none⟩ 1 1 (encU rd0) rfl rfl (rd0_at HBN.out) rd0_one ?c3 ?c4 HBB.out ?_)
  case c3 => unfold maxLen; omega
  case c4 => omega
  intro v' w4 hown hgrow hnn hloc
  obtain ⟨A', cap', hv'⟩ := slice_own hown
  have hb4 := (HF.out.blk.alloc (.cells #[.slice none 0 0, .int .i64 0] 47)).grown hgrow (fun hc => own_else HF.out.row HF.out.blk (by decide) hc.symm)
  have c14 := hb4.cell 1
  have f14 := hb4.frozen 1
  simp only [List.getElem?_toArray, List.getElem?_cons_succ, List.getElem?_cons_zero] at c14
  have HR := Lib.hid (FeAt.more HF.out (by rw [← HN.out]; exact hown) hgrow (by simpa using hloc))
  subst hv'
  clear hown hgrow hnn hloc hb4 c1
  go_wp2_with fail
  go_ret2
  exact ⟨rfl, _, HR.out⟩
theorem poll_bad (B g room : Nat) (rv : Value) (us : List (Value × Rd)) (w : World) (r : Int) (hF : FeAt B w g room rv us) (hr : r < 0 ∨ (us.length : Int) ≤ r) :
    Calls Try.prog 10 #[.pointer (some ⟨g, 0, none⟩), .int .i64 r] w fun e w' => e = .returned (.tuple #[.slice none 0 0, .int .i64 0, errV 4]) ∧ w' = w := by
  have c1 := hF.c1
  obtain ⟨A, cap, rfl⟩ := slice_own hF.row
  clear hF
  by_cases h0 : r < 0
  · clear hr
    go_enter Try.func10, Try.ntmps10
    go_wp2_with fail
    go_ret3
    exact ⟨rfl, rfl⟩
  · have h1 : (us.length : Int) ≤ r := by omega
    clear hr
    go_enter Try.func10, Try.ntmps10
    go_wp2_with fail
    go_ret3
    exact ⟨rfl, rfl⟩
def PollPost (B g room : Nat) (rv : Value) (us : List (Value × Rd)) (i : Nat) (u : Value × Rd) (w : World) (e : Ending) (w' : World) : Prop := e = .returned (.tuple #[u.1, .int .i64 (u.2.lost : Int), .nilIface]) ∧ ListAt w' u.1 u.2.kept ∧ FeAt B w' g room rv (us.set i rd0) ∧ KB (Own g rv us) w w' ∧ ∀ b, Own g rv (us.set i rd0) b → Own g rv us b ∨ w.heap.size ≤ b
set_option maxHeartbeats 2000000 in
set_option maxRecDepth 100000 in
theorem poll_ok (B g room : Nat) (rv : Value) (us : List (Value × Rd)) (w : World) (i : Nat) (u : Value × Rd) (hF : FeAt B w g room rv us) (hi : us[i]? = some u) (h8 : us.length ≤ 8) :
    Calls Try.prog 10 #[.pointer (some ⟨g, 0, none⟩), .int .i64 (i : Int)] w fun e w' => PollPost B g room rv us i u w e w' := by
  have hil := (List.getElem?_eq_some_iff.1 hi).1
  obtain ⟨h, cap, rfl⟩ : ∃ h cap, rv = .slice (some ⟨h, 0, none⟩) us.length cap := by
    rcases hF.row.2 with ⟨_, h0⟩ | ⟨h, cap, cur, h1, _⟩
    · omega
    · exact ⟨h, cap, h1⟩
  obtain ⟨cur, hBh, hn, hcb, hc1, hc2, hc3, hc4⟩ := cells_of_own hF.row
  obtain ⟨d0, d1⟩ := hc4 i u hi
  obtain ⟨v, K, lost⟩ := u
  simp only at d0 d1
  have hkp : w.ownsRow B 2 1 v K.length (intVals K) := hF.kept _ (List.mem_of_getElem? hi)
  obtain ⟨A, capk, rfl⟩ := slice_own hkp
  clear hkp
  have c1 := hF.c1
  obtain ⟨n, hn⟩ : ∃ n, n = us.length := ⟨_, rfl⟩
  have HN := Lib.hid hn
  rw [← hn] at hF c1 hil h8 ⊢
  have hlt : (i : Int) < (n : Int) := by omega
  have hge : ¬ (n : Int) ≤ (i : Int) := by omega
  have hi0 : ¬ (i : Int) < 0 := by omega
  have e0 := (hcb.cell (i * 2)).trans d0
  have e1 := (hcb.cell (i * 2 + 1)).trans d1
  obtain ⟨X, hX⟩ : ∃ X, X = Obj.cells #[.slice A K.length capk, .int .i64 (lost : Int)] 47 := ⟨_, rfl⟩
  have hcb1 := hcb.alloc X
  have hF1 := hF.below (below_box w X)
  have e01 := (hcb1.cell (i * 2)).trans d0
  have e11 := (hcb1.cell (i * 2 + 1)).trans d1
  have f01 := hcb1.frozen (i * 2)
  have f11 := hcb1.frozen (i * 2 + 1)
  have c11 := hF1.c1
  have hnew : Blk (w.alloc X) w.heap.size 47 #[.slice A K.length capk, .int .i64 (lost : Int)] := by rw [hX]; exact Blk.new w 47 _
  have hhn : w.heap.size ≠ h := fun e => by have := hcb.lt; omega
  have hnew4 := (hnew.set_ne hhn (i * 2) (.slice none 0 0)).set_ne hhn (i * 2 + 1) (.int .i64 0)
  have x0 := hnew4.cell 0
  have x1 := hnew4.cell 1
  simp only [List.getElem?_toArray, List.getElem?_cons_succ, List.getElem?_cons_zero] at x0 x1
  have hb4 := (hcb1.set_ (i * 2) (.slice none 0 0)).set_ (i * 2 + 1) (.int .i64 0)
  have hk4 : KB (fun b => b = h ∨ (Value.slice A K.length capk).ownBlock = some b) w (((w.alloc X).setCell ⟨h, i * 2, none⟩ (.slice none 0 0)).setCell ⟨h, i * 2 + 1, none⟩ (.int .i64 0)) :=
    ((KB.of_below (below_box w X)).trans (KB.of_grown (grown_set _ h (i * 2) _) fun b hb => by injection hb with hb; exact .inl hb.symm)).trans (KB.of_grown (grown_set _ h (i * 2 + 1) _) fun b hb => by injection hb with hb; exact .inl hb.symm)
  have HP := Lib.hid (hF.put (u' := rd0) hi hcb hk4 hb4 (World.ownsRow_nil _ _ _ _) (fun b hb => by cases hb))
  have HL : Hid (ListAt (((w.alloc X).setCell ⟨h, i * 2, none⟩ (.slice none 0 0)).setCell ⟨h, i * 2 + 1, none⟩ (.int .i64 0)) (.slice A K.length capk) K) := Lib.hid (by
    have hkp : w.ownsRow B 2 1 (.slice A K.length capk) K.length (intVals K) := hF.kept _ (List.mem_of_getElem? hi)
    refine list_of_own (B := B) (e := 2) ?_
    exact own_apart (own_apart (own_below hkp (below_box w X)) hcb1 (by decide) _ _) (hcb1.set_ _ _) (by decide) _ _)
  have HN8 := Lib.hid h8
  subst hX
  have hzz := zero47
  clear hF hcb hc1 hc2 hc3 hc4 d0 d1 hi hn hBh hcb1 hF1 hnew hnew4 hb4 hk4 h8
  go_enter Try.func10, Try.ntmps10
  go_wp2_with fail
  go_quiet (fail)
  go_wp2_with fail
  go_ret3
  obtain ⟨r1, r2, r3⟩ := HP.out
  refine ⟨rfl, HL.out.below (below_drewN (Below.refl _ _) _), r1.below (below_drewN (Below.refl _ _) _), r2.trans (KB.of_below (below_drewN (Below.refl _ _) _)), r3⟩
end Go.Proofs.Ytkcgpjlakhhggaa
