/- Cancel. -/
import Derived.Test.YtlfiijlfokckkaaYset
import Derived.Deep.QuietTactic
namespace Go.Proofs.Ytlfiijlfokckkaa
open Go.ChangeShapes Go.WideShapes Go.ChangeAt Go.RowKit Go.Maps
set_option linter.unusedVariables false

theorem id_one {S : List Tm} (hS : (S.map fun t => t.id).Nodup) : ∀ t ∈ S, tickOf S t.id = t.tick := by
  induction S with
  | nil => intro t ht; cases ht
  | cons s S ih =>
    rw [List.map_cons, List.nodup_cons] at hS
    intro t ht
    rcases List.mem_cons.1 ht with rfl | ht
    · unfold tickOf
      rw [List.find?_cons]
      simp
    · have hne : s.id ≠ t.id := fun e => hS.1 (by rw [e]; exact List.mem_map_of_mem (f := fun t => t.id) ht)
      rw [← ih hS.2 t ht]
      unfold tickOf
      rw [List.find?_cons]
      simp [hne]
theorem mem_id {S : List Tm} {id : Int} (h : hasId S id = true) : ∃ t ∈ S, t.id = id := by
  unfold hasId at h
  rw [List.any_eq_true] at h
  obtain ⟨t, h1, h2⟩ := h
  exact ⟨t, h1, by simpa using h2⟩
theorem spk_drop_same {S : List Tm} (hS : (S.map fun t => t.id).Nodup) {id : Int} {j k : Nat} (hk : tickOf S id % 64 = (k : Int)) (hne : j ≠ k) : spk (dropId S id) j = spk S j := by
  unfold spk dropId
  rw [List.filter_filter]
  refine List.filter_congr fun t ht => ?_
  by_cases e : t.id = id
  · subst e
    rw [id_one hS t ht] at hk
    have : ¬ t.tick % 64 = (j : Int) := by omega
    simp [this]
  · simp [e]
theorem spk_drop_here (S : List Tm) (id : Int) (k : Nat) : spk (dropId S id) k = dropId (spk S k) id := by
  unfold spk dropId
  rw [List.filter_filter, List.filter_filter]
  refine List.filter_congr fun t _ => ?_
  rw [Bool.and_comm]
/-- one is taken out of its spoke -/
theorem WhAt.dropped {B : Nat} {w w1 w2 : World} {g m k : Nat} {vs : Nat → Value} {v' : Value} {now id : Int} {S : List Tm} {R1 : Option Nat} (h : WhAt B w g m vs now S) (hS : (S.map fun t => t.id).Nodup) (hk : k < 64) (ht : tickOf S id % 64 = (k : Int)) (hids : IdsAt w1 m (dropId S id)) (hk1 : KB (fun b => b = m) w w1)
    (hown : w2.ownsRow B 30 3 v' (dropId (spk S k) id).length (rowT (dropId (spk S k) id))) (hg2 : w1.grownBy w2 (vs k).ownBlock) (hloc : v'.ownBlock = (vs k).ownBlock) :
    KB (Own g m vs) w (w2.setCell ⟨g, 2 + k, none⟩ v') ∧ WhAt B (w2.setCell ⟨g, 2 + k, none⟩ v') g m (upd vs k v') now (dropId S id) ∧ ∀ b, Own g m (upd vs k v') b → Own g m vs b := by
  have hgm := h.gm
  obtain ⟨O, hO⟩ : ∃ O : Nat → Prop, O = fun b => b = g ∨ b = m ∨ (vs k).ownBlock = some b := ⟨_, rfl⟩
  have hg4 : w2.grownBy (w2.setCell ⟨g, 2 + k, none⟩ v') (some g) := grown_set w2 g (2 + k) v'
  have hall : KB O w (w2.setCell ⟨g, 2 + k, none⟩ v') := ((hk1.wide (fun b _ hb => by rw [hO]; exact .inr (.inl hb))).trans (KB.of_grown hg2 (fun b hb => by rw [hO]; exact .inr (.inr hb)))).trans (KB.of_grown hg4 (fun b hb => by rw [hO]; injection hb with hb; exact .inl hb.symm))
  have hblk2 : Blk w2 g 46 (wcells now m vs) := (h.blk.kb hk1 hgm).grown hg2 (fun hc => h.row_g hk hc.symm)
  have hus : ∀ j, (upd vs k v' j).ownBlock = (vs j).ownBlock := fun j => by
    unfold upd
    split
    · subst j; exact hloc
    · rfl
  refine ⟨hall.wide fun b _ hb => ?_, ⟨?_, ?_, ?_, ?_, h.Bg, h.Bm⟩, ?_⟩
  · rw [hO] at hb
    rcases hb with hb | hb | hb
    · exact .inl hb
    · exact .inr (.inl hb)
    · exact .inr (.inr ⟨k, hk, hb⟩)
  · have := hblk2.set_ (2 + k) v'
    rwa [wcells_set now m vs k hk v'] at this
  · exact (hids.kept hg2 (fun hc => h.row_m hk hc.symm)).kept hg4 (by simpa using Ne.symm hgm)
  · intro j hj
    by_cases e : j = k
    · subst e
      have e1 : upd vs j v' j = v' := by simp [upd]
      rw [e1, spk_drop_here]
      exact own_kb (O := fun b => b = g) hown (KB.of_grown hg4 (fun b hb => by injection hb with hb; exact hb.symm)) (fun b hb hc => by
        subst hc
        exact own_else hown hblk2 (by decide) hb)
    · have e1 : upd vs k v' j = vs j := by simp [upd, e]
      rw [e1, spk_drop_same hS ht e]
      exact own_kb (h.rows j hj) hall (fun b hb hc => by
        rw [hO] at hc
        rcases hc with hc | hc | hc
        · exact h.row_g hj (by rw [hb, hc])
        · exact h.row_m hj (by rw [hb, hc])
        · exact h.apart j k hj hk e b hb hc)
  · intro i j hi hj hne b hb
    rw [hus] at hb ⊢
    exact h.apart i j hi hj hne b hb
  · rintro b (hb | hb | ⟨j, hj, hb⟩)
    · exact .inl hb
    · exact .inr (.inl hb)
    · rw [hus] at hb
      exact .inr (.inr ⟨j, hj, hb⟩)
/-- what Cancel comes to -/
def CanPost (B g m : Nat) (vs : Nat → Value) (now id : Int) (S : List Tm) (w : World) (e : Ending) (w' : World) : Prop := e = .returned (.bool (hasId S id)) ∧ ∃ vs', KB (Own g m vs) w w' ∧ WhAt B w' g m vs' now (dropId S id) ∧ ∀ b, Own g m vs' b → Own g m vs b
theorem drop_none {S : List Tm} {id : Int} (h : hasId S id = false) : dropId S id = S := by
  unfold dropId
  unfold hasId at h
  rw [List.any_eq_false] at h
  rw [List.filter_eq_self]
  intro t ht
  simpa using h t ht
set_option maxHeartbeats 2000000 in
set_option maxRecDepth 100000 in
theorem can_none (B g m : Nat) (vs : Nat → Value) (now id : Int) (S : List Tm) (w : World) (h : WhAt B w g m vs now S) (hid : F64 id) (hh : hasId S id = false) :
    Calls Try.prog 9 #[.pointer (some ⟨g, 0, none⟩), .int .i64 id] w fun e w' => CanPost B g m vs now id S w e w' := by
  have HP : Hid (∀ n, CanPost B g m vs now id S w (.returned (.bool false)) ((w.alloc (.cells #[.int .i64 id] 3)).drewN n)) := Lib.hid fun n => ⟨by rw [hh], vs, KB.of_below (below_drewN (below_box w _) n), by rw [drop_none hh]; exact h.below (below_drewN (below_box w _) n), fun b hb => hb⟩
  have hA := h.below (below_box w (.cells #[.int .i64 id] 3))
  have c1 := hA.c1
  have hb0 := (Blk.new w 3 #[.int .i64 id]).cell 0
  have hlook : ∀ j, (Instr.lookup 43 (.map (some m)) (.int .i64 id) true).run Try.prog ((w.alloc (.cells #[.int .i64 id] 3)).drewN j) = .ok (.tuple #[.int .i64 (tickOf S id), .bool (hasId S id)]) ((w.alloc (.cells #[.int .i64 id] 3)).drewN j) := fun j => (hA.ids.drewN j).look hid
  rw [hh] at hlook
  simp only [List.getElem?_toArray, List.getElem?_cons_zero] at hb0
  generalize tickOf S id = T at hlook
  clear h hA
  go_enter Try.func9, Try.ntmps9
  go_wp2_with fail
  go_quiet (fail)
  go_wp2_with fail
  go_ret
  exact HP.out _
theorem drewD (w : World) : w.drew = w.drewN 1 := rfl
set_option maxHeartbeats 4000000 in
set_option maxRecDepth 100000 in
theorem can_one (B g m : Nat) (vs : Nat → Value) (now id : Int) (S : List Tm) (w : World) (h : WhAt B w g m vs now S) (hS : Sound now S) (hid : F64 id) (hh : hasId S id = true) :
    Calls Try.prog 9 #[.pointer (some ⟨g, 0, none⟩), .int .i64 id] w fun e w' => CanPost B g m vs now id S w e w' := by
  have hA := h.below (below_box w (.cells #[.int .i64 id] 3))
  have c1 := hA.c1
  have hb0 := (Blk.new w 3 #[.int .i64 id]).cell 0
  have hlook : ∀ j, (Instr.lookup 43 (.map (some m)) (.int .i64 id) true).run Try.prog ((w.alloc (.cells #[.int .i64 id] 3)).drewN j) = .ok (.tuple #[.int .i64 (tickOf S id), .bool (hasId S id)]) ((w.alloc (.cells #[.int .i64 id] 3)).drewN j) := fun j => (hA.ids.drewN j).look hid
  rw [hh] at hlook
  simp only [List.getElem?_toArray, List.getElem?_cons_zero] at hb0
  have hT : 0 ≤ tickOf S id ∧ tickOf S id ≤ 2000000000 := by
    obtain ⟨t, ht, rfl⟩ := mem_id hh
    rw [id_one hS.nodup t ht]
    have := hS.late t ht
    have := hS.now0
    omega
  have HH := Lib.hid h
  have HA := Lib.hid hA
  have HS := Lib.hid hS
  have HHH := Lib.hid hh
  have HT := Lib.hid hT
  obtain ⟨T, HTT⟩ : ∃ T, Hid (T = tickOf S id) := ⟨_, Lib.hid rfl⟩
  rw [← HTT.out] at hlook HT
  have HBX := Lib.hid (Blk.new w 3 #[.int .i64 id])
  clear h hA hh hT hS
  go_enter Try.func9, Try.ntmps9
  go_wp2_with fail
  go_quiet (fail)
  go_wp2_with fail
  have HA1 := Lib.hid (HA.out.below (below_drewN (Below.refl _ _) (nq + 1)))
  obtain ⟨w2, hdel, hids2, hg2⟩ := HA1.out.ids.drop hid HS.out.nodup 0
  obtain ⟨wq, hwq⟩ : ∃ W : World, W = (w.alloc (.cells #[.int .i64 id] 3)).drewN nq := ⟨_, rfl⟩
  have e1 : (w.alloc (.cells #[.int .i64 id] 3)).drewN (nq + 1) = wq.drew := by rw [hwq]; rfl
  have hb0q : wq.cell? ⟨w.heap.size, 0, none⟩ = some (.int .i64 id) := by rw [hwq]; exact hb0
  have c1q : wq.cell? ⟨g, 1, none⟩ = some (.map (some m)) := by rw [hwq]; exact c1
  rw [e1] at hdel hg2 HA1
  rw [← hwq]
  have HK1 : Hid (KB (fun b => b = m) w w2) := Lib.hid ((KB.of_below (by rw [← e1]; exact below_drewN (below_box w _) (nq + 1))).trans (KB.of_grown hg2 (fun b hb => by injection hb with hb; exact hb.symm)))
  have HBX2 : Hid (Blk w2 w.heap.size 3 #[.int .i64 id]) := Lib.hid ((show Blk wq.drew w.heap.size 3 #[.int .i64 id] by rw [← e1]; exact HBX.out.drewN (nq + 1)).grown hg2 (fun hc => by
    injection hc with hc
    have := HH.out.ids.lt
    omega))
  have HIDS2 := Lib.hid hids2
  clear hids2 hg2 e1 hwq hb0 c1 hlook HBX HA
  have mixed : Try.prog.follows .mixedOrders = true := by kernel_rfl
  go_big_region_o
  all_goals go_wp2_with fail
  obtain ⟨k, hk, hk64⟩ : ∃ k : Nat, (T % 64).toNat = k ∧ k < 64 := ⟨_, rfl, by omega⟩
  have hsp := spoke_any g T w2 HT.out.1 HT.out.2
  rw [hk] at hsp
  have HTK : Hid (tickOf S id % 64 = (k : Int)) := Lib.hid (by rw [← HTT.out]; omega)
  refine hsp.mono ?_
  rintro e w3 ⟨rfl, rfl⟩
  have hgm := HH.out.gm
  have hb2 := HH.out.blk.kb HK1.out hgm
  have ck := (hb2.cell (2 + k)).trans (wcells_row now m vs hk64)
  have fk := hb2.frozen (2 + k)
  have hrow := own_kb (HH.out.rows k hk64) HK1.out (fun b hb hc => HH.out.row_m hk64 (by rw [hb, hc]))
  have HDEL := Lib.hid (deleteRow_any (vs k) w.heap.size B (spk S k) id w3 hrow HBX2.out (fun b hb hc => by
    have := (HH.out.own_lt b (.inr (.inr ⟨k, hk64, hb⟩))).2
    omega) (by have := spk_len S k; have := HS.out.few; omega))
  have HB2 := Lib.hid hb2
  obtain ⟨A, cap, hv⟩ := HH.out.slice hk64
  have HV := Lib.hid hv
  rw [hv] at ck HDEL
  have HHB : Hid (B ≤ w.heap.size) := Lib.hid (Nat.le_of_lt (Nat.lt_of_le_of_lt HH.out.Bg HH.out.blk.lt))
  clear hk hsp hgm hb2 hrow hv hdel HA1 mixed
  go_wp2_with fail
  refine HDEL.out.mono ?_
  rintro e w4 ⟨hg4, v', rfl, hloc, hown⟩
  have HF := Lib.hid (WhAt.dropped (R1 := none) HH.out HS.out.nodup hk64 HTK.out HIDS2.out HK1.out hown (by rw [HV.out]; exact hg4) (by rw [HV.out]; exact hloc))
  have hb4 := HB2.out.grown hg4 (fun hc => HH.out.row_g hk64 (by rw [HV.out, ← hc]))
  have ck4 := (hb4.cell (2 + k)).trans (wcells_row now m vs hk64)
  have fk4 := hb4.frozen (2 + k)
  rw [HV.out] at ck4
  obtain ⟨A', n', cap', rfl⟩ : ∃ A' n' cap', v' = .slice A' n' cap' := by
    rcases hown.2 with ⟨h1, _⟩ | ⟨g', c', cur, h1, _⟩
    · exact ⟨_, _, _, h1⟩
    · exact ⟨_, _, _, h1⟩
  clear hown hg4 hloc hb4 ck fk
  go_wp2_with fail
  go_ret
  exact ⟨by rw [HHH.out]; rfl, _, HF.out⟩
theorem cancel_any (B g m : Nat) (vs : Nat → Value) (now id : Int) (S : List Tm) (w : World) (h : WhAt B w g m vs now S) (hS : Sound now S) (hid : F64 id) :
    Calls Try.prog 9 #[.pointer (some ⟨g, 0, none⟩), .int .i64 id] w fun e w' => CanPost B g m vs now id S w e w' := by
  cases hh : hasId S id with
  | false => exact can_none B g m vs now id S w h hid hh
  | true => exact can_one B g m vs now id S w h hS hid hh
end Go.Proofs.Ytlfiijlfokckkaa
