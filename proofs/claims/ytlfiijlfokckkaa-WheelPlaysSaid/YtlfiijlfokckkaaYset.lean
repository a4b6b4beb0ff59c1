/- New and Set. -/
import Derived.Test.YtlfiijlfokckkaaYwh
namespace Go.Proofs.Ytlfiijlfokckkaa
open Go.ChangeShapes Go.WideShapes Go.ChangeAt Go.RowKit Go.Maps
set_option linter.unusedVariables false

theorem zero46 (w : World) : (zeroValue 46).run Try.prog w = .ok (.agg #[.int .i64 0, .map none, .slice none 0 0, .slice none 0 0, .slice none 0 0, .slice none 0 0, .slice none 0 0, .slice none 0 0, .slice none 0 0, .slice none 0 0, .slice none 0 0, .slice none 0 0, .slice none 0 0, .slice none 0 0, .slice none 0 0, .slice none 0 0, .slice none 0 0, .slice none 0 0, .slice none 0 0, .slice none 0 0, .slice none 0 0, .slice none 0 0, .slice none 0 0, .slice none 0 0, .slice none 0 0, .slice none 0 0, .slice none 0 0, .slice none 0 0, .slice none 0 0, .slice none 0 0, .slice none 0 0, .slice none 0 0, .slice none 0 0, .slice none 0 0, .slice none 0 0, .slice none 0 0, .slice none 0 0, .slice none 0 0, .slice none 0 0, .slice none 0 0, .slice none 0 0, .slice none 0 0, .slice none 0 0, .slice none 0 0, .slice none 0 0, .slice none 0 0, .slice none 0 0, .slice none 0 0, .slice none 0 0, .slice none 0 0, .slice none 0 0, .slice none 0 0, .slice none 0 0, .slice none 0 0, .slice none 0 0, .slice none 0 0, .slice none 0 0, .slice none 0 0, .slice none 0 0, .slice none 0 0, .slice none 0 0, .slice none 0 0, .slice none 0 0, .slice none 0 0, .slice none 0 0, .slice none 0 0]) w := by kernel_rfl
theorem wcells_new (m : Nat) : wcells 0 m (fun _ => .slice none 0 0) = #[.int .i64 0, .map (some m), .slice none 0 0, .slice none 0 0, .slice none 0 0, .slice none 0 0, .slice none 0 0, .slice none 0 0, .slice none 0 0, .slice none 0 0, .slice none 0 0, .slice none 0 0, .slice none 0 0, .slice none 0 0, .slice none 0 0, .slice none 0 0, .slice none 0 0, .slice none 0 0, .slice none 0 0, .slice none 0 0, .slice none 0 0, .slice none 0 0, .slice none 0 0, .slice none 0 0, .slice none 0 0, .slice none 0 0, .slice none 0 0, .slice none 0 0, .slice none 0 0, .slice none 0 0, .slice none 0 0, .slice none 0 0, .slice none 0 0, .slice none 0 0, .slice none 0 0, .slice none 0 0, .slice none 0 0, .slice none 0 0, .slice none 0 0, .slice none 0 0, .slice none 0 0, .slice none 0 0, .slice none 0 0, .slice none 0 0, .slice none 0 0, .slice none 0 0, .slice none 0 0, .slice none 0 0, .slice none 0 0, .slice none 0 0, .slice none 0 0, .slice none 0 0, .slice none 0 0, .slice none 0 0, .slice none 0 0, .slice none 0 0, .slice none 0 0, .slice none 0 0, .slice none 0 0, .slice none 0 0, .slice none 0 0, .slice none 0 0, .slice none 0 0, .slice none 0 0, .slice none 0 0, .slice none 0 0] := rfl
set_option maxRecDepth 100000 in
theorem new_any (w : World) : Calls Try.prog 6 #[] w fun e w' => Below w.heap.size w w' ∧ w'.heap.size = w.heap.size + 2 ∧ e = .returned (.pointer (some ⟨w.heap.size + 1, 0, none⟩)) ∧ WhAt w.heap.size w' (w.heap.size + 1) w.heap.size (fun _ => .slice none 0 0) 0 [] := by
  have hmm := @run_makeMap Try.prog
  have hz := zero46
  have HB : Hid (Below w.heap.size w ((w.alloc (.map #[] 0)).alloc (.cells (wcells 0 w.heap.size (fun _ => .slice none 0 0)) 46))) := Lib.hid ((below_box w _).trans ((below_box _ _).mono (by simp)))
  have HS : Hid (((w.alloc (.map #[] 0)).alloc (.cells (wcells 0 w.heap.size (fun _ => .slice none 0 0)) 46)).heap.size = w.heap.size + 2) := Lib.hid (by simp)
  have HW : Hid (WhAt w.heap.size ((w.alloc (.map #[] 0)).alloc (.cells (wcells 0 w.heap.size (fun _ => .slice none 0 0)) 46)) (w.heap.size + 1) w.heap.size (fun _ => .slice none 0 0) 0 []) := Lib.hid ⟨Blk.new_at _ _ _ _ (by simp), (IdsAt.made w).below (below_box _ _), fun k hk => World.ownsRow_nil _ _ _ _, fun j k _ _ _ b hb => (by cases hb), by omega, Nat.le_refl _⟩
  rw [wcells_new] at HB HS HW
  go_enter Try.func6, Try.ntmps6
  go_wp2_with fail
  go_ret
  exact ⟨HB.out, HS.out, rfl, HW.out⟩
/-! ### Set -/
abbrev errV (c : Int) : Value := .iface 35 (.int .i64 c)
theorem set_twice (B g m : Nat) (vs : Nat → Value) (now id at_ wh : Int) (S : List Tm) (w : World) (h : WhAt B w g m vs now S) (hid : F64 id) (hh : hasId S id = true) :
    Calls Try.prog 8 #[.pointer (some ⟨g, 0, none⟩), .int .i64 id, .int .i64 at_, .int .i64 wh] w fun e w' => w' = w ∧ e = .returned (errV 5) := by
  have c1 := h.c1
  have hlook := h.ids.look hid
  rw [hh] at hlook
  generalize tickOf S id = T at hlook
  clear h
  go_enter Try.func8, Try.ntmps8
  go_wp2_with fail
  go_ret
  exact ⟨rfl, rfl⟩
theorem set_arg (B g m : Nat) (vs : Nat → Value) (now id at_ wh : Int) (S : List Tm) (w : World) (h : WhAt B w g m vs now S) (hid : F64 id) (hh : hasId S id = false) (ha : at_ ≤ now ∨ 1073741824 < at_) :
    Calls Try.prog 8 #[.pointer (some ⟨g, 0, none⟩), .int .i64 id, .int .i64 at_, .int .i64 wh] w fun e w' => w' = w ∧ e = .returned (errV 1) := by
  have c0 := h.c0
  have c1 := h.c1
  have hlook := h.ids.look hid
  rw [hh] at hlook
  generalize tickOf S id = T at hlook
  clear h
  by_cases ha1 : at_ ≤ now
  · clear ha
    go_enter Try.func8, Try.ntmps8
    go_wp2_with fail
    go_ret
    exact ⟨rfl, rfl⟩
  · have ha2 : 1073741824 < at_ := by omega
    clear ha
    go_enter Try.func8, Try.ntmps8
    go_wp2_with fail
    go_ret
    exact ⟨rfl, rfl⟩
theorem set_full (B g m : Nat) (vs : Nat → Value) (now id at_ wh : Int) (S : List Tm) (w : World) (h : WhAt B w g m vs now S) (hid : F64 id) (hh : hasId S id = false) (ha1 : ¬ at_ ≤ now) (ha2 : ¬ 1073741824 < at_) (hf : S.length = 50) :
    Calls Try.prog 8 #[.pointer (some ⟨g, 0, none⟩), .int .i64 id, .int .i64 at_, .int .i64 wh] w fun e w' => w' = w ∧ e = .returned (errV 6) := by
  have c0 := h.c0
  have c1 := h.c1
  have hlook := h.ids.look hid
  rw [hh] at hlook
  generalize tickOf S id = T at hlook
  have HL := Lib.hid (len_any B g m vs now S w h)
  rw [hf] at HL
  clear h hf
  go_enter Try.func8, Try.ntmps8
  go_wp2_with (first | (go_at_call 12; refine HL.out.mono ?_; rintro e w1 ⟨rfl, rfl⟩) | fail)
  go_ret
  exact ⟨rfl, rfl⟩
theorem Try.info30 : (Try.prog.info? 30).map (fun i => (i.zero, i.size, i.bytes)) = some (some (.agg #[.int .i64 0, .int .i64 0, .int .i64 0]), 3, 24) := by kernel_rfl
theorem spk_snoc (S : List Tm) (t : Tm) (k : Nat) : spk (S ++ [t]) k = spk S k ++ if t.tick % 64 = (k : Int) then [t] else [] := by
  unfold spk
  rw [List.filter_append]
  by_cases h : t.tick % 64 = (k : Int) <;> simp [h]
theorem spk_len (S : List Tm) (k : Nat) : (spk S k).length ≤ S.length := List.length_filter_le _ _
theorem spk_same {S : List Tm} {t : Tm} {j k : Nat} (hk : t.tick % 64 = (k : Int)) (hne : j ≠ k) : spk (S ++ [t]) j = spk S j := by rw [spk_snoc, if_neg (by omega), List.append_nil]
theorem spk_here {S : List Tm} {t : Tm} {k : Nat} (hk : t.tick % 64 = (k : Int)) : spk (S ++ [t]) k = spk S k ++ [t] := by rw [spk_snoc, if_pos hk]
/-- a timer is put behind those of its spoke -/
theorem WhAt.added {B : Nat} {w w1 w2 w3 : World} {g m k : Nat} {vs : Nat → Value} {v' : Value} {now : Int} {S : List Tm} {t : Tm} (h : WhAt B w g m vs now S) (hk : k < 64) (ht : t.tick % 64 = (k : Int)) (hids : IdsAt w1 m (S ++ [t])) (hg1 : w.grownBy w1 (some m)) (hb2 : Below w1.heap.size w1 w2)
    (hown : w3.ownsRow B 30 3 v' ((spk S k).length + 1) (rowT (spk S k) ++ encT t)) (hg3 : w2.grownBy w3 (vs k).ownBlock) (hloc : v'.ownBlock = (vs k).ownBlock ∨ v'.ownBlock = some w2.heap.size) :
    KB (Own g m vs) w (w3.setCell ⟨g, 2 + k, none⟩ v') ∧ WhAt B (w3.setCell ⟨g, 2 + k, none⟩ v') g m (upd vs k v') now (S ++ [t]) ∧ ∀ b, Own g m (upd vs k v') b → Own g m vs b ∨ w.heap.size ≤ b := by
  have hgm := h.gm
  have hw12 : w.heap.size ≤ w2.heap.size := Nat.le_trans hg1.size hb2.size
  obtain ⟨O, hO⟩ : ∃ O : Nat → Prop, O = fun b => b = g ∨ b = m ∨ (vs k).ownBlock = some b := ⟨_, rfl⟩
  have hg4 : w3.grownBy (w3.setCell ⟨g, 2 + k, none⟩ v') (some g) := grown_set w3 g (2 + k) v'
  have hall : KB O w (w3.setCell ⟨g, 2 + k, none⟩ v') := (((KB.of_grown hg1 (fun b hb => by rw [hO]; injection hb with hb; exact .inr (.inl hb.symm))).trans (KB.of_below hb2)).trans (KB.of_grown hg3 (fun b hb => by rw [hO]; exact .inr (.inr hb)))).trans (KB.of_grown hg4 (fun b hb => by rw [hO]; injection hb with hb; exact .inl hb.symm))
  have hnew : ∀ b, v'.ownBlock = some b → (vs k).ownBlock = some b ∨ w.heap.size ≤ b := fun b hb => by
    rcases hloc with h1 | h1
    · exact .inl (by rw [← h1, hb])
    · rw [hb] at h1
      injection h1 with h1
      exact .inr (by omega)
  have hblk3 : Blk w3 g 46 (wcells now m vs) := ((h.blk.grown hg1 (by simpa using hgm)).below hb2 (Nat.lt_of_lt_of_le h.blk.lt hg1.size)).grown hg3 (fun hc => h.row_g hk hc.symm)
  refine ⟨hall.wide fun b _ hb => ?_, ⟨?_, ?_, ?_, ?_, h.Bg, h.Bm⟩, ?_⟩
  · rw [hO] at hb
    rcases hb with hb | hb | hb
    · exact .inl hb
    · exact .inr (.inl hb)
    · exact .inr (.inr ⟨k, hk, hb⟩)
  · have := hblk3.set_ (2 + k) v'
    rwa [wcells_set now m vs k hk v'] at this
  · exact ((hids.below hb2).kept hg3 (fun hc => h.row_m hk hc.symm)).kept hg4 (by simpa using Ne.symm hgm)
  · intro j hj
    by_cases e : j = k
    · subst e
      have e1 : upd vs j v' j = v' := by simp [upd]
      rw [e1, spk_here ht, rowT_snoc, List.length_append]
      exact own_kb (O := fun b => b = g) hown (KB.of_grown hg4 (fun b hb => by injection hb with hb; exact hb.symm)) (fun b hb hc => by
        subst hc
        exact own_else hown hblk3 (by decide) hb)
    · have e1 : upd vs k v' j = vs j := by simp [upd, e]
      rw [e1, spk_same ht e]
      exact own_kb (h.rows j hj) hall (fun b hb hc => by
        rw [hO] at hc
        rcases hc with hc | hc | hc
        · exact h.row_g hj (by rw [hb, hc])
        · exact h.row_m hj (by rw [hb, hc])
        · exact h.apart j k hj hk e b hb hc)
  · intro i j hi hj hne b hb
    by_cases e1 : i = k
    · subst e1
      have q1 : upd vs i v' i = v' := by simp [upd]
      have q2 : upd vs i v' j = vs j := by simp [upd, Ne.symm hne]
      rw [q1] at hb
      rw [q2]
      intro hc
      rcases hnew b hb with h1 | h1
      · exact h.apart i j hi hj hne b h1 hc
      · have := (h.own_lt b (.inr (.inr ⟨j, hj, hc⟩))).2
        omega
    · have q1 : upd vs k v' i = vs i := by simp [upd, e1]
      rw [q1] at hb
      by_cases e2 : j = k
      · subst e2
        have q2 : upd vs j v' j = v' := by simp [upd]
        rw [q2]
        intro hc
        rcases hnew b hc with h1 | h1
        · exact h.apart i j hi hj hne b hb h1
        · have := (h.own_lt b (.inr (.inr ⟨i, hi, hb⟩))).2
          omega
      · have q2 : upd vs k v' j = vs j := by simp [upd, e2]
        rw [q2]
        exact h.apart i j hi hj hne b hb
  · rintro b (hb | hb | ⟨j, hj, hb⟩)
    · exact .inl (.inl hb)
    · exact .inl (.inr (.inl hb))
    · by_cases e : j = k
      · subst e
        have q1 : upd vs j v' j = v' := by simp [upd]
        rw [q1] at hb
        rcases hnew b hb with h1 | h1
        · exact .inl (.inr (.inr ⟨j, hj, h1⟩))
        · exact .inr h1
      · have q1 : upd vs k v' j = vs j := by simp [upd, e]
        rw [q1] at hb
        exact .inl (.inr (.inr ⟨j, hj, hb⟩))
set_option maxHeartbeats 2000000 in
set_option maxRecDepth 100000 in
theorem set_ok (B g m : Nat) (vs : Nat → Value) (now id at_ wh : Int) (S : List Tm) (w : World) (h : WhAt B w g m vs now S) (hid : F64 id) (hh : hasId S id = false) (h0 : 0 ≤ now) (ha1 : ¬ at_ ≤ now) (ha2 : ¬ 1073741824 < at_) (hf : S.length < 50) :
    Calls Try.prog 8 #[.pointer (some ⟨g, 0, none⟩), .int .i64 id, .int .i64 at_, .int .i64 wh] w fun e w' => e = .returned .nilIface ∧ ∃ vs', KB (Own g m vs) w w' ∧ WhAt B w' g m vs' now (S ++ [⟨id, at_, wh⟩]) ∧ ∀ b, Own g m vs' b → Own g m vs b ∨ w.heap.size ≤ b := by
  have c0 := h.c0
  have c1 := h.c1
  have hlook := h.ids.look hid
  rw [hh] at hlook
  generalize tickOf S id = T at hlook
  have HL := Lib.hid (len_any B g m vs now S w h)
  have hl50 : ((S.length : Int) == 50) = false := beq_false_of_ne (by omega)
  obtain ⟨w1, hstore, hids1, hg1⟩ := h.ids.store (t := ⟨id, at_, wh⟩) hid (by unfold F64; simp only; omega) hh (by omega)
  simp only at hstore
  obtain ⟨k, hk, hk64⟩ : ∃ k : Nat, (at_ % 64).toNat = k ∧ k < 64 := ⟨_, rfl, by omega⟩
  have HSP := Lib.hid (fun W => spoke_any g at_ W (by omega) (by omega))
  rw [hk] at HSP
  have HB0 : B ≤ w.heap.size := Nat.le_of_lt (Nat.lt_of_le_of_lt h.Bg h.blk.lt)
  have hgm := h.gm
  have hb1 := h.blk.grown hg1 (by simpa using hgm)
  have ck := (hb1.cell _).trans (wcells_row now m vs hk64)
  have fk := hb1.frozen (2 + k)
  have HR1 : Hid (w1.ownsRow B 30 3 (vs k) (spk S k).length (rowT (spk S k))) := Lib.hid ((h.rows k hk64).kept hg1 (.inr (h.row_m hk64)))
  obtain ⟨A, cap, hv⟩ := h.slice hk64
  rw [hv] at ck
  rw [hv] at HR1
  have HH := Lib.hid h
  have HV := Lib.hid hv
  have HI1 := Lib.hid hids1
  have HG1 := Lib.hid hg1
  have HBK1 := Lib.hid hb1
  have HKK : Hid (at_ % 64 = (k : Int)) := Lib.hid (by omega)
  have HBN := Lib.hid (Blk.new w1 30 #[.int .i64 id, .int .i64 at_, .int .i64 wh])
  have HRA := Lib.hid (own_below HR1.out (below_box w1 (.cells #[.int .i64 id, .int .i64 at_, .int .i64 wh] 30)))
  obtain ⟨i0, hi, hz0, hz1, hz2⟩ := info_parts Try.info30
  have HI := Lib.hid hi
  have HZ0 := Lib.hid hz0
  have HZ1 := Lib.hid hz1
  have HZ2 := Lib.hid hz2
  have HSL : Hid ((spk S k).length < 50) := Lib.hid (Nat.lt_of_le_of_lt (spk_len S k) hf)
  have HB1 : Hid (B ≤ w1.heap.size) := Lib.hid (Nat.le_trans HB0 hg1.size)
  clear h hids1 hg1 hb1 hv hi hz0 hz1 hz2 hk hf hgm
  go_enter Try.func8, Try.ntmps8
  go_wp2_with (first | (go_at_call 12; refine HL.out.mono ?_; rintro e w2 ⟨rfl, rfl⟩) | fail)
  refine (HSP.out _).mono ?_
  rintro e w2 ⟨rfl, rfl⟩
  go_wp2_with (at_builtin; refine wpList_append_own_at _ rfl _ _ 26 rfl B 30 i0 (.agg #[.int .i64 0, .int .i64 0, .int .i64 0]) 3 24 Try.underlying26 HI.out HZ0.out HZ1.out HZ2.out rfl (by decide) _ _ _ rfl HRA.out ⟨w2.heap.size, 0, none⟩ 1 1 (encT ⟨id, at_, wh⟩) rfl rfl (tm_at HBN.out) (tm_one _) ?c3 ?c4 ?c5 ?_)
  case c3 => have := HSL.out; unfold maxLen; omega
  case c4 => have := HSL.out; omega
  case c5 => have := HB1.out; simp; omega
  intro v' w3 hown hgrow hnn hloc
  obtain ⟨g', cap', rfl⟩ := slice_of_own hown
  have HF := Lib.hid (WhAt.added HH.out hk64 HKK.out HI1.out HG1.out (below_box w2 (.cells #[.int .i64 id, .int .i64 at_, .int .i64 wh] 30)) hown (by rw [HV.out]; exact hgrow) (by rw [HV.out]; simpa using hloc))
  have hb3 := (HBK1.out.alloc (.cells #[.int .i64 id, .int .i64 at_, .int .i64 wh] 30)).grown hgrow (fun hc => HH.out.row_g hk64 (by rw [HV.out, ← hc]))
  have ck3 := (hb3.cell (2 + k)).trans (wcells_row now m vs hk64)
  have fk3 := hb3.frozen (2 + k)
  rw [HV.out] at ck3
  clear hown hgrow hnn hloc hb3 ck fk
  go_wp2_with fail
  go_ret
  exact ⟨rfl, _, HF.out⟩
end Go.Proofs.Ytlfiijlfokckkaa
