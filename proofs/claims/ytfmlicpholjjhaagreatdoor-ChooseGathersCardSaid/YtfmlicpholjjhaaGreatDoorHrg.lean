/- The contract of the document's Gather. -/
import Derived.Test.YtfmlicpholjjhaaGreatDoorHref
namespace Go.Proofs.YtfmlicpholjjhaaGreatDoor
open Go.ChangeShapes Go.WideShapes Go.ChangeAt Go.RowKit
set_option linter.unusedVariables false

theorem frA_or (env : List Int) (ev : Int) (R : List Tr) (l : List Int) (n : Nat) : (frA env ev R l n).1 = -1 ∨ 0 ≤ (frA env ev R l n).1 := by
  by_cases h : (frA env ev R l n).1 = -1
  · exact .inl h
  · exact .inr (isTr_iff.1 (frA_at env ev R l n h).1).1
theorem frS_or (env : List Int) (ev : Int) (s : Int) (R : List Tr) (n : Nat) : (frS env ev s R 0 n).1 = -1 ∨ 0 ≤ (frS env ev s R 0 n).1 := by
  by_cases h : (frS env ev s R 0 n).1 = -1
  · exact .inl h
  · exact .inr (isTr_iff.1 (frS_at env ev s R R 0 n (fun j t h => by rwa [Nat.zero_add]) h).1).1
/-- how far the way was gone, with what was found -/
def WayAt (env : List Int) (ev : Int) (R : List Tr) (y : Int) (tot : Nat) (rest : List Int) (f : Int) (q : Nat) : Prop :=
  (f = -1 ∧ frA env ev R rest q = (y, tot)) ∨ (0 ≤ f ∧ f = y ∧ q = tot)
theorem WayAt.start {env : List Int} {ev : Int} {R : List Tr} {y : Int} {yn q : Nat} {l : List Int} (h : frA env ev R l 0 = (y, yn)) : WayAt env ev R y (q + yn) l (-1) q := by
  have h2 := frA_add env ev R l q 0
  rw [Nat.add_zero, h] at h2
  exact .inl ⟨rfl, h2⟩
theorem WayAt.step {env : List Int} {ev : Int} {R : List Tr} {y : Int} {tot q : Nat} {s : Int} {r : List Int} {i : Int} {m : Nat} (h : WayAt env ev R y tot (s :: r) (-1) q) (hS : frS env ev s R 0 0 = (i, m)) : WayAt env ev R y tot r i (q + m) := by
  rcases h with ⟨_, h⟩ | ⟨h, _⟩
  · rw [frA, show q = q + 0 from rfl, frS_add, hS] at h
    simp only at h
    by_cases hi : i = -1
    · rw [if_pos hi] at h
      exact .inl ⟨hi, h⟩
    · rw [if_neg hi] at h
      injection h with h1 h2
      have := frS_or env ev s R 0
      rw [hS] at this
      exact .inr ⟨this.resolve_left hi, h1, h2⟩
  · omega
theorem WayAt.stop {env : List Int} {ev : Int} {R : List Tr} {y : Int} {tot q : Nat} {f : Int} (h : WayAt env ev R y tot [] f q) : f = y ∧ q = tot := by
  rcases h with ⟨h1, h⟩ | ⟨_, h1, h2⟩
  · rw [frA] at h
    injection h with h2 h3
    exact ⟨by omega, h3⟩
  · exact ⟨h1, h2⟩
theorem WayAt.found {env : List Int} {ev : Int} {R : List Tr} {y : Int} {tot q : Nat} {f : Int} {l : List Int} (h : WayAt env ev R y tot l f q) (hf : 0 ≤ f) : f = y ∧ q = tot := by
  rcases h with ⟨h1, _⟩ | ⟨_, h1, h2⟩
  · omega
  · exact ⟨h1, h2⟩
theorem put_met (acc : List Int) (y : Int) (h : y = -1 ∨ 0 ≤ y) : putIn acc y = if (decide (y < 0) || acc.contains y) = true then acc else acc ++ [y] := by
  unfold putIn
  have : (y = -1 ∨ acc.contains y = true) ↔ (decide (y < 0) || acc.contains y) = true := by
    rw [Bool.or_eq_true, decide_eq_true_iff]
    constructor
    · rintro (h | h)
      · exact .inl (by omega)
      · exact .inr h
    · rintro (h | h)
      · exact .inl (by omega)
      · exact .inr h
  by_cases hc : y = -1 ∨ acc.contains y = true
  · rw [if_pos hc, if_pos (this.1 hc)]
  · rw [if_neg hc, if_neg (fun h => hc (this.2 h))]
set_option maxHeartbeats 8000000 in
set_option maxRecDepth 100000 in
theorem rgather_any (n : Nat) (vs vt ve : Value) (ev : Int) (C : Ch) (env : List Int) (w : World) (hC : ChHas w vs vt C) (hF : fewB C = true) (hta : Tame C.sts) (hn : n < 4294967296) (hE : NumsAt w ve env) (hel : env.length ≤ 1000) (hef : ∀ x ∈ env, F64 x) :
    Calls Tryz.prog 12 #[.agg #[.int .i64 C.vars, vs, vt], .int .u32 (n : Int), ve, .int .i64 ev] w (GaPost (gaL C env ev n) w) := by
  obtain ⟨i0, hi, hz0, hz1, hz2⟩ := info_parts Tryz.info3
  have HI := Lib.hid hi
  have HZ0 := Lib.hid hz0
  have HZ1 := Lib.hid hz1
  have HZ2 := Lib.hid hz2
  obtain ⟨sA, scap, rA, rcap, rfl, rfl⟩ := hC.slices
  have hl24 := hta.len
  have HLV := Lib.hid (fun (W : World) (h : Below w.heap.size w W) => rleaves_any n _ _ C W (hC.below h) (by omega) hn)
  have HUP := Lib.hid (fun (W : World) (h : Below w.heap.size w W) (s : Nat) (hs : s < C.sts.length) => rups_any C.vars _ _ C s W (hC.below h) (by omega) hs)
  have HFI := Lib.hid (fun (W : World) (h : Below w.heap.size w W) (s : Int) => rfirst_any _ _ ve s ev C env W (hC.below h) hF (hE.below h) hel hef)
  have HLU := Lib.hid (fun x (h : x ∈ lvL C.sts n) => ups_head (leaf_up hta h))
  have HLS := Lib.hid (fun x (h : x ∈ lvL C.sts n) => isSt_nat (lvL_is h))
  have HWL := Lib.hid (fun s => way_len hta s)
  have HML := Lib.hid (fun s => missed_le env ev hta hF s)
  have HSL := Lib.hid (fun s => Nat.le_trans (frS_le env ev s C.trs 0 0) (by have := (few_parts hF).2.1; omega : 0 + C.trs.length ≤ 60))
  have hlv : (lvL C.sts n).length ≤ 24 := Nat.le_trans (lvU_len C.sts n _) hta.len
  have HX : ∃ X, X = gaL C env ev n := ⟨_, rfl⟩
  obtain ⟨X, hX⟩ := HX
  rw [← hX]
  have HX : Hid (X = (lvL C.sts n).foldl (gaStep C env ev) ([], 0)) := Lib.hid hX
  generalize lvL C.sts n = l at *
  clear hi hz0 hz1 hz2 hC hF hta hE hef hX
  go_enter Tryz.func12, Tryz.ntmps12
  go_wp2_with fail
  refine (HLV.out _ (below_box _ _)).mono ?_
  rintro e w2 ⟨hb2, vl, rfl, ho2⟩
  have HBX := Lib.hid hb2
  have HB2 := Lib.hid (below_boxed hb2)
  obtain ⟨A, lcap, rfl, hcap, he⟩ := list_of_own ho2
  have HE := Lib.hid he
  clear hb2 ho2 he
  go_wp2_with fail
  go_loopw [10, 11, 13] (fun v m i wr => ∃ (k q : Nat) (acc : List Int), k ≤ l.length ∧ q ≤ k * 1500 ∧ acc.length ≤ k ∧ i = .int .i64 (k : Int) ∧ m = .int .i64 (q : Int) ∧ Hid (X = (l.drop k).foldl (gaStep C env ev) (acc, q)) ∧ Below w2.heap.size w2 wr ∧ Hid (wr.ownsRow w2.heap.size 3 1 v acc.length (intVals acc))) (fun _ _ i _ => l.length - (intOf i).toNat)
  case atStart => exact ⟨0, 0, [], Nat.zero_le _, Nat.zero_le _, Nat.zero_le _, rfl, rfl, HX, Below.refl _ _, Lib.hid (World.ownsRow_nil _ _ _ _)⟩
  case round =>
    clear HX
    obtain ⟨k, q, acc, hk, hq, hal, rfl, rfl, HX, hb, hown⟩ := hrel
    obtain ⟨wo, rfl⟩ : ∃ wo : World, wo = wr := ⟨_, rfl⟩
    have HBR := Lib.hid hb
    by_cases hlt : k < l.length
    · obtain ⟨oA, ocap, hv10, _, _⟩ := list_of_own hown.out
      subst hv10
      obtain ⟨b, o, rfl, hbl, hc⟩ := HE.out k _ (List.getElem?_eq_getElem hlt)
      have HX2 : Hid (X = (l.drop (k + 1)).foldl (gaStep C env ev) (gaStep C env ev (acc, q) l[k])) := Lib.hid (HX.out.trans (drop_fold _ l k hlt _))
      have HU0 := Lib.hid (HLU.out l[k] (List.getElem_mem hlt))
      have hul : 0 < (ups C.sts l[k]).length := (List.getElem?_eq_some_iff.1 (HLU.out l[k] (List.getElem_mem hlt))).1
      have hwl := HWL.out l[k]
      have hwl2 : (ups C.sts l[k]).length ≤ 24 := by unfold wayL at hwl; rw [List.length_cons] at hwl; omega
      have HWY : Hid (wayL C.sts l[k] = [l[k]] ++ ups C.sts l[k]) := Lib.hid rfl
      have hml := HML.out l[k]
      have HGS : Hid (gaStep C env ev (acc, q) l[k] = (putIn acc (frA env ev C.trs (wayL C.sts l[k]) 0).1, q + (frA env ev C.trs (wayL C.sts l[k]) 0).2)) := Lib.hid rfl
      have HYO := Lib.hid (frA_or env ev C.trs (wayL C.sts l[k]) 0)
      have HY0 : Hid (frA env ev C.trs (wayL C.sts l[k]) 0 = ((frA env ev C.trs (wayL C.sts l[k]) 0).1, (frA env ev C.trs (wayL C.sts l[k]) 0).2)) := Lib.hid rfl
      rw [HGS.out] at HX2
      obtain ⟨sk, hsk, hskl⟩ := HLS.out l[k] (List.getElem_mem hlt)
      rw [hsk] at hc HX2 HU0 hul hwl hwl2 HWY hml HGS HYO HY0
      generalize (frA env ev C.trs (wayL C.sts (sk : Int)) 0).1 = y at *
      generalize (frA env ev C.trs (wayL C.sts (sk : Int)) 0).2 = yn at *
      have HSX : Hid (∀ W, Below w2.heap.size w2 W → (W.cell? ⟨w.heap.size, 0, none⟩ = some (.int .i64 C.vars) ∧ W.cell? ⟨w.heap.size, 1, none⟩ = some (.slice sA C.sts.length scap) ∧ W.cell? ⟨w.heap.size, 2, none⟩ = some (.slice rA C.trs.length rcap)) ∧ W.cell? ⟨b, o + k, none⟩ = some (.int .i64 (sk : Int))) := Lib.hid fun W h => ⟨box_later (HBX.out.trans (h.mono HBX.out.size)), by have := IntAt.keeps w2 W b _ _ h hbl hc; rwa [Nat.mul_one] at this⟩
      have HBD := Lib.hid hb.drew
      have HUS := Lib.hid (fun (W : World) (h : Below w2.heap.size w2 W) => HUP.out W (HB2.out.trans (h.mono HB2.out.size)) sk hskl)
      have hbs : w2.heap.size ≤ wo.drew.heap.size := HBD.out.size
      have HOD := Lib.hid (own_below hown.out (Below.refl _ wo).drew)
      generalize ups C.sts (sk : Int) = up at *
      generalize wayL C.sts (sk : Int) = way at *
      clear hc hb HX HGS hsk
      go_wp2_with fail
      refine anyD_start (fun W => (W.cell? ⟨w.heap.size, 0, none⟩ = some (.int .i64 C.vars) ∧ W.cell? ⟨w.heap.size, 1, none⟩ = some (.slice sA C.sts.length scap) ∧ W.cell? ⟨w.heap.size, 2, none⟩ = some (.slice rA C.trs.length rcap)) ∧ W.cell? ⟨b, o + k, none⟩ = some (.int .i64 (sk : Int))) (fun i => [].contains i) (by kernel_rfl) ?_
      refine anyD_take (i := 0) (v := .slice (some ⟨b, o, none⟩) l.length lcap) rfl (by kernel_rfl) (by kernel_rfl) (by kernel_rfl) (fun _ _ _ h => h) (Or.inl ⟨by kernel_rfl, fun w => by go_simp⟩) ?_
      try simp only [Act.put, List.setIfInBounds_toArray, List.set_cons_zero, List.set_cons_succ, List.getElem_toArray, List.getElem_cons_zero]
      refine anyD_take (i := 1) (v := .int .i64 (k : Int)) rfl (by kernel_rfl) (by kernel_rfl) (by kernel_rfl) (fun _ _ _ h => h) (Or.inl ⟨by kernel_rfl, fun w => by go_simp⟩) ?_
      try simp only [Act.put, List.setIfInBounds_toArray, List.set_cons_zero, List.set_cons_succ, List.getElem_toArray, List.getElem_cons_zero, List.getElem_cons_succ]
      refine anyD_take (i := 2) (v := .pointer (some ⟨b, o + k, none⟩)) rfl (by kernel_rfl) (by kernel_rfl) (by kernel_rfl) (fun _ _ _ h => h) (Or.inl ⟨by kernel_rfl, fun w => by go_simp⟩) ?_
      try simp only [Act.put, List.setIfInBounds_toArray, List.set_cons_zero, List.set_cons_succ, List.getElem_toArray, List.getElem_cons_zero, List.getElem_cons_succ]
      refine anyD_load (i := 3) (v := .int .i64 (sk : Int)) rfl (by kernel_rfl) (by kernel_rfl) (by kernel_rfl) (by kernel_rfl) (fun _ _ _ h => h) (Or.inl ⟨by kernel_rfl, fun w hS => by obtain ⟨⟨c0, c1, c2⟩, c3⟩ := hS; go_simp⟩) (HSX.out _ HBD.out) ?_
      try simp only [Act.put, List.setIfInBounds_toArray, List.set_cons_zero, List.set_cons_succ, List.getElem_toArray, List.getElem_cons_zero, List.getElem_cons_succ]
      refine anyD_load (i := 5) (v := .agg #[.int .i64 C.vars, .slice sA C.sts.length scap, .slice rA C.trs.length rcap]) rfl (by kernel_rfl) (by kernel_rfl) (by kernel_rfl) (by kernel_rfl) (fun _ _ _ h => h) (Or.inl ⟨by kernel_rfl, fun w hS => by obtain ⟨⟨c0, c1, c2⟩, c3⟩ := hS; go_simp⟩) (HSX.out _ HBD.out) ?_
      try simp only [Act.put, List.setIfInBounds_toArray, List.set_cons_zero, List.set_cons_succ, List.getElem_toArray, List.getElem_cons_zero, List.getElem_cons_succ]
      refine anyD_take (i := 6) (v := .slice (some ⟨b, o, none⟩) l.length lcap) rfl (by kernel_rfl) (by kernel_rfl) (by kernel_rfl) (fun _ _ _ h => h) (Or.inl ⟨by kernel_rfl, fun w => by go_simp⟩) ?_
      try simp only [Act.put, List.setIfInBounds_toArray, List.set_cons_zero, List.set_cons_succ, List.getElem_toArray, List.getElem_cons_zero, List.getElem_cons_succ]
      refine anyD_take (i := 7) (v := .int .i64 (k : Int)) rfl (by kernel_rfl) (by kernel_rfl) (by kernel_rfl) (fun _ _ _ h => h) (Or.inl ⟨by kernel_rfl, fun w => by go_simp⟩) ?_
      try simp only [Act.put, List.setIfInBounds_toArray, List.set_cons_zero, List.set_cons_succ, List.getElem_toArray, List.getElem_cons_zero, List.getElem_cons_succ]
      refine anyD_take (i := 8) (v := .pointer (some ⟨b, o + k, none⟩)) rfl (by kernel_rfl) (by kernel_rfl) (by kernel_rfl) (fun _ _ _ h => h) (Or.inl ⟨by kernel_rfl, fun w => by go_simp⟩) ?_
      try simp only [Act.put, List.setIfInBounds_toArray, List.set_cons_zero, List.set_cons_succ, List.getElem_toArray, List.getElem_cons_zero, List.getElem_cons_succ]
      refine anyD_load (i := 9) (v := .int .i64 (sk : Int)) rfl (by kernel_rfl) (by kernel_rfl) (by kernel_rfl) (by kernel_rfl) (fun _ _ _ h => h) (Or.inl ⟨by kernel_rfl, fun w hS => by obtain ⟨⟨c0, c1, c2⟩, c3⟩ := hS; go_simp⟩) (HSX.out _ HBD.out) ?_
      try simp only [Act.put, List.setIfInBounds_toArray, List.set_cons_zero, List.set_cons_succ, List.getElem_toArray, List.getElem_cons_zero, List.getElem_cons_succ]
      refine anyD_two (i := 4) (j := 10) rfl rfl rfl rfl (by kernel_rfl) (fun K HK => ?orderA) (fun K HK => ?orderB)
      case' orderA =>
        go_simp
        refine HK.out _ _ (fun _ hS => HSX.out _ (HBD.out.alloc HBD.out.size _)) ?_
        clear HK K
        try simp only [Act.put, List.setIfInBounds_toArray, List.set_cons_zero, List.set_cons_succ, List.getElem_toArray, List.getElem_cons_zero, List.getElem_cons_succ]
        refine anyD_one (i := 10) rfl rfl (by kernel_rfl) (fun K HK => ?_)
        go_simp
        refine (HUS.out _ (HBD.out.alloc HBD.out.size _)).mono ?_
        rintro e w3 ⟨hb3, v3, rfl, ho3⟩
        have HB3 := Lib.hid ((HBD.out.alloc HBD.out.size (.cells #[.int .i64 (sk : Int)] 3)).trans (hb3.mono (HBD.out.alloc HBD.out.size _).size))
        have HO3 := Lib.hid (own_below (own_one wo.drew (.int .i64 (sk : Int)) 3) hb3)
        have HOW3 := Lib.hid (own_below (HOD.out.alloc (.cells #[.int .i64 (sk : Int)] 3)) hb3)
        have HNE : Hid ((Value.slice oA acc.length ocap).ownBlock = none ∨ (Value.slice oA acc.length ocap).ownBlock ≠ (Value.slice (some ⟨wo.drew.heap.size, 0, none⟩) 1 1).ownBlock) := Lib.hid (.inr fun h => by
          have := (HOD.out.lt wo.drew.heap.size (h.trans rfl)).2
          omega)
        have HS3 : Hid (wo.drew.heap.size ≤ w3.heap.size) := Lib.hid (Nat.le_trans (by simp) hb3.size)
        have HBS : Hid (w2.heap.size ≤ wo.drew.heap.size) := Lib.hid hbs
        clear hb3
        rcases ho3.2 with ⟨_, hz⟩ | ⟨g3, cap3, cur3, rfl, hge3, hg3, hc3, hm3, hs3', ht3⟩
        · exact absurd hul (by omega)
        have HC3 := Lib.hid ho3
        clear ho3 hg3 ht3 hm3 hs3'
        go_simp
        refine HK.out _ _ (fun _ hS => HSX.out _ HB3.out) ?_
        clear HK K
        try simp only [Act.put, List.setIfInBounds_toArray, List.set_cons_zero, List.set_cons_succ, List.getElem_toArray, List.getElem_cons_zero, List.getElem_cons_succ]
        refine anyD_one (i := 11) rfl rfl (by kernel_rfl) (fun K HK => ?_)
        refine wp_append_at _ _ 37 rfl (wo.drew.heap.size) 3 i0 (.int .i64 0) 1 8 Tryz.underlying37 HI.out HZ0.out HZ1.out HZ2.out rfl (by decide) _ _ _ rfl HO3.out ⟨g3, 0, none⟩ up.length cap3 (intVals up) rfl (by simp [intVals]) (fun j u hj => by rw [flat_add]; simpa using own_cell HC3.out j u hj) (fun u hu => by obtain ⟨x, _, rfl⟩ := List.mem_map.1 hu; rfl) (by unfold maxLen; omega) (by omega) (by have := HS3.out; omega) ?_
        intro v4 w4 hown4 hgrow4 _
        have hblk : ∀ b, (Value.slice (some ⟨wo.drew.heap.size, 0, none⟩) 1 1).ownBlock = some b → wo.drew.heap.size ≤ b := fun b hb => by
          have h : some (wo.drew.heap.size) = some b := hb
          injection h with h
          omega
        have HB4 := Lib.hid (Below.grown HB3.out hgrow4 (by have := HS3.out; have := HBS.out; omega) (fun b hb => Nat.le_trans HBS.out (hblk b hb)))
        have HOW4 := Lib.hid (HOW3.out.kept hgrow4 HNE.out)
        have HW4 : Hid (ListAt w4 v4 way) := Lib.hid (list_of_own (B := wo.drew.heap.size) (by rw [HWY.out, List.length_append]; simpa [intVals] using hown4))
        clear hown4 hgrow4 hblk
        refine HK.out _ _ (fun _ hS => HSX.out _ HB4.out) ?_
        clear HK K
        try simp only [Act.put, List.setIfInBounds_toArray, List.set_cons_zero, List.set_cons_succ, List.getElem_toArray, List.getElem_cons_zero, List.getElem_cons_succ]
        refine anyD_take (i := 12) (v := v4) rfl (by kernel_rfl) (by kernel_rfl) (by kernel_rfl) (fun _ _ _ h => h) (Or.inl ⟨by kernel_rfl, fun w => by go_simp⟩) ?_
        try simp only [Act.put, List.setIfInBounds_toArray, List.set_cons_zero, List.set_cons_succ, List.getElem_toArray, List.getElem_cons_zero, List.getElem_cons_succ]
        refine anyD_done (by kernel_rfl) ?_
      case' orderB =>
        go_simp
        refine (HUS.out _ HBD.out).mono ?_
        rintro e w3 ⟨hb3, v3, rfl, ho3⟩
        have HBP := Lib.hid (HBD.out.trans (hb3.mono HBD.out.size))
        have HOP := Lib.hid (own_below HOD.out hb3)
        rcases ho3.2 with ⟨_, hz⟩ | ⟨g3, cap3, cur3, rfl, hge3, hg3, hc3, hm3, hs3', ht3⟩
        · exact absurd hul (by omega)
        have HC3 := Lib.hid (ho3.alloc (.cells #[.int .i64 (sk : Int)] 3))
        clear ho3 hg3 ht3 hm3 hs3' hb3
        go_simp
        refine HK.out _ _ (fun _ hS => HSX.out _ HBP.out) ?_
        clear HK K
        try simp only [Act.put, List.setIfInBounds_toArray, List.set_cons_zero, List.set_cons_succ, List.getElem_toArray, List.getElem_cons_zero, List.getElem_cons_succ]
        refine anyD_one (i := 4) rfl rfl (by kernel_rfl) (fun K HK => ?_)
        go_simp
        refine HK.out _ _ (fun _ hS => HSX.out _ (HBP.out.alloc HBP.out.size _)) ?_
        clear HK K
        try simp only [Act.put, List.setIfInBounds_toArray, List.set_cons_zero, List.set_cons_succ, List.getElem_toArray, List.getElem_cons_zero, List.getElem_cons_succ]
        have HB3 := Lib.hid (HBP.out.alloc HBP.out.size (.cells #[.int .i64 (sk : Int)] 3))
        have HO3 := Lib.hid (own_one w3 (.int .i64 (sk : Int)) 3)
        have HOW3 := Lib.hid (HOP.out.alloc (.cells #[.int .i64 (sk : Int)] 3))
        have HNE : Hid ((Value.slice oA acc.length ocap).ownBlock = none ∨ (Value.slice oA acc.length ocap).ownBlock ≠ (Value.slice (some ⟨w3.heap.size, 0, none⟩) 1 1).ownBlock) := Lib.hid (.inr fun h => by
          have := (HOP.out.lt w3.heap.size (h.trans rfl)).2
          omega)
        have HS3 : Hid (w3.heap.size ≤ (w3.alloc (.cells #[.int .i64 (sk : Int)] 3)).heap.size) := Lib.hid (by simp)
        have HBS : Hid (w2.heap.size ≤ w3.heap.size) := Lib.hid HBP.out.size
        refine anyD_one (i := 11) rfl rfl (by kernel_rfl) (fun K HK => ?_)
        refine wp_append_at _ _ 37 rfl (w3.heap.size) 3 i0 (.int .i64 0) 1 8 Tryz.underlying37 HI.out HZ0.out HZ1.out HZ2.out rfl (by decide) _ _ _ rfl HO3.out ⟨g3, 0, none⟩ up.length cap3 (intVals up) rfl (by simp [intVals]) (fun j u hj => by rw [flat_add]; simpa using own_cell HC3.out j u hj) (fun u hu => by obtain ⟨x, _, rfl⟩ := List.mem_map.1 hu; rfl) (by unfold maxLen; omega) (by omega) (by have := HS3.out; omega) ?_
        intro v4 w4 hown4 hgrow4 _
        have hblk : ∀ b, (Value.slice (some ⟨w3.heap.size, 0, none⟩) 1 1).ownBlock = some b → w3.heap.size ≤ b := fun b hb => by
          have h : some (w3.heap.size) = some b := hb
          injection h with h
          omega
        have HB4 := Lib.hid (Below.grown HB3.out hgrow4 (by have := HS3.out; have := HBS.out; omega) (fun b hb => Nat.le_trans HBS.out (hblk b hb)))
        have HOW4 := Lib.hid (HOW3.out.kept hgrow4 HNE.out)
        have HW4 : Hid (ListAt w4 v4 way) := Lib.hid (list_of_own (B := w3.heap.size) (by rw [HWY.out, List.length_append]; simpa [intVals] using hown4))
        clear hown4 hgrow4 hblk
        refine HK.out _ _ (fun _ hS => HSX.out _ HB4.out) ?_
        clear HK K
        try simp only [Act.put, List.setIfInBounds_toArray, List.set_cons_zero, List.set_cons_succ, List.getElem_toArray, List.getElem_cons_zero, List.getElem_cons_succ]
        refine anyD_take (i := 12) (v := v4) rfl (by kernel_rfl) (by kernel_rfl) (by kernel_rfl) (fun _ _ _ h => h) (Or.inl ⟨by kernel_rfl, fun w => by go_simp⟩) ?_
        try simp only [Act.put, List.setIfInBounds_toArray, List.set_cons_zero, List.set_cons_succ, List.getElem_toArray, List.getElem_cons_zero, List.getElem_cons_succ]
        refine anyD_done (by kernel_rfl) ?_
      all_goals (
        have HB4w := Lib.hid (HB2.out.trans (HB4.out.mono HB2.out.size))
        obtain ⟨wA, wcap, rfl, hwc, hwe⟩ := HW4.out
        have HWE := Lib.hid hwe
        clear hwe
        go_wp2_with fail
        go_loopw [11, 15, 16] (fun mv fv jv wr => ∃ (j q' : Nat) (f : Int), j ≤ way.length ∧ q' ≤ q + j * 60 ∧ jv = .int .i64 (j : Int) ∧ mv = .int .i64 (q' : Int) ∧ fv = .int .i64 f ∧ Hid (WayAt env ev C.trs y (q + yn) (way.drop j) f q') ∧ Below w4.heap.size w4 wr) (fun _ _ jv _ => way.length - (intOf jv).toNat)
        case atStart => exact ⟨0, q, -1, Nat.zero_le _, by omega, rfl, rfl, rfl, Lib.hid (WayAt.start HY0.out), Below.refl _ _⟩
        case round =>
          obtain ⟨j, q', f, hj, hq', rfl, rfl, rfl, HWA, hb5⟩ := hrel
          obtain ⟨wp, rfl⟩ : ∃ wp : World, wp = wr := ⟨_, rfl⟩
          have HB := Lib.hid hb5
          have HBA := Lib.hid (fun (W : World) (h : Below w4.heap.size w4 W) => HB4w.out.trans (h.mono HB4w.out.size))
          clear hb5
          by_cases hgo : j < way.length ∧ f < 0
          · obtain ⟨hjl, hf⟩ := hgo
            have hfb : decide (f < 0) = true := by simpa using hf
            have hff : Hid (f = -1) := Lib.hid (by
              rcases HWA.out with ⟨h, _⟩ | ⟨h, _⟩
              · exact h
              · omega)
            obtain ⟨wb, wf, rfl, hwbl, hwc0⟩ := HWE.out j _ (List.getElem?_eq_getElem hjl)
            have HWD : Hid (way.drop j = way[j] :: way.drop (j + 1)) := Lib.hid (List.drop_eq_getElem_cons hjl)
            generalize way[j] = x at *
            have HSY : Hid (∀ W, Below w4.heap.size w4 W → (W.cell? ⟨w.heap.size, 0, none⟩ = some (.int .i64 C.vars) ∧ W.cell? ⟨w.heap.size, 1, none⟩ = some (.slice sA C.sts.length scap) ∧ W.cell? ⟨w.heap.size, 2, none⟩ = some (.slice rA C.trs.length rcap)) ∧ W.cell? ⟨wb, wf + j, none⟩ = some (.int .i64 x)) := Lib.hid fun W h => ⟨box_later (HBX.out.trans ((HB4.out.trans (h.mono HB4.out.size)).mono HBX.out.size)), by have := IntAt.keeps w4 W wb _ _ h hwbl hwc0; rwa [Nat.mul_one] at this⟩
            have hm1 := HSL.out x
            obtain ⟨i1, m1, hFX⟩ : ∃ i1 m1, frS env ev x C.trs 0 0 = (i1, m1) := ⟨_, _, rfl⟩
            rw [hFX] at hm1
            simp only at hm1
            have HFX := Lib.hid hFX
            have HWN := Lib.hid (WayAt.step (by have := HWA.out; rw [HWD.out, hff.out] at this; exact this) hFX)
            clear hFX hwc0 hf HWA HWD hff
            go_wp2_with fail
            refine anyD_start (fun W => (W.cell? ⟨w.heap.size, 0, none⟩ = some (.int .i64 C.vars) ∧ W.cell? ⟨w.heap.size, 1, none⟩ = some (.slice sA C.sts.length scap) ∧ W.cell? ⟨w.heap.size, 2, none⟩ = some (.slice rA C.trs.length rcap)) ∧ W.cell? ⟨wb, wf + j, none⟩ = some (.int .i64 x)) (fun i => [].contains i) (by kernel_rfl) ?_
            have HBD5 := Lib.hid HB.out.drew
            refine anyD_load (i := 0) (v := .agg #[.int .i64 C.vars, .slice sA C.sts.length scap, .slice rA C.trs.length rcap]) rfl (by kernel_rfl) (by kernel_rfl) (by kernel_rfl) (by kernel_rfl) (fun _ _ _ h => h) (Or.inl ⟨by kernel_rfl, fun w hS => by obtain ⟨⟨c0, c1, c2⟩, c3⟩ := hS; go_simp⟩) (HSY.out _ HBD5.out) ?_
            try simp only [Act.put, List.setIfInBounds_toArray, List.set_cons_zero, List.set_cons_succ, List.getElem_toArray, List.getElem_cons_zero]
            refine anyD_take (i := 1) (v := .slice (some ⟨wb, wf, none⟩) way.length wcap) rfl (by kernel_rfl) (by kernel_rfl) (by kernel_rfl) (fun _ _ _ h => h) (Or.inl ⟨by kernel_rfl, fun w => by go_simp⟩) ?_
            try simp only [Act.put, List.setIfInBounds_toArray, List.set_cons_zero, List.set_cons_succ, List.getElem_toArray, List.getElem_cons_zero, List.getElem_cons_succ]
            refine anyD_take (i := 2) (v := .int .i64 (j : Int)) rfl (by kernel_rfl) (by kernel_rfl) (by kernel_rfl) (fun _ _ _ h => h) (Or.inl ⟨by kernel_rfl, fun w => by go_simp⟩) ?_
            try simp only [Act.put, List.setIfInBounds_toArray, List.set_cons_zero, List.set_cons_succ, List.getElem_toArray, List.getElem_cons_zero, List.getElem_cons_succ]
            refine anyD_take (i := 3) (v := .pointer (some ⟨wb, wf + j, none⟩)) rfl (by kernel_rfl) (by kernel_rfl) (by kernel_rfl) (fun _ _ _ h => h) (Or.inl ⟨by kernel_rfl, fun w => by go_simp⟩) ?_
            try simp only [Act.put, List.setIfInBounds_toArray, List.set_cons_zero, List.set_cons_succ, List.getElem_toArray, List.getElem_cons_zero, List.getElem_cons_succ]
            refine anyD_load (i := 4) (v := .int .i64 x) rfl (by kernel_rfl) (by kernel_rfl) (by kernel_rfl) (by kernel_rfl) (fun _ _ _ h => h) (Or.inl ⟨by kernel_rfl, fun w hS => by obtain ⟨⟨c0, c1, c2⟩, c3⟩ := hS; go_simp⟩) (HSY.out _ HBD5.out) ?_
            try simp only [Act.put, List.setIfInBounds_toArray, List.set_cons_zero, List.set_cons_succ, List.getElem_toArray, List.getElem_cons_zero, List.getElem_cons_succ]
            refine anyD_take (i := 5) (v := ve) rfl (by kernel_rfl) (by kernel_rfl) (by kernel_rfl) (fun _ _ _ h => h) (Or.inl ⟨by kernel_rfl, fun w => by go_simp⟩) ?_
            try simp only [Act.put, List.setIfInBounds_toArray, List.set_cons_zero, List.set_cons_succ, List.getElem_toArray, List.getElem_cons_zero, List.getElem_cons_succ]
            refine anyD_take (i := 6) (v := .int .i64 ev) rfl (by kernel_rfl) (by kernel_rfl) (by kernel_rfl) (fun _ _ _ h => h) (Or.inl ⟨by kernel_rfl, fun w => by go_simp⟩) ?_
            try simp only [Act.put, List.setIfInBounds_toArray, List.set_cons_zero, List.set_cons_succ, List.getElem_toArray, List.getElem_cons_zero, List.getElem_cons_succ]
            refine anyD_one (i := 7) rfl rfl (by kernel_rfl) (fun K HK => ?_)
            go_simp
            refine (HFI.out _ (HBA.out _ HBD5.out) x).mono ?_
            rintro e w6 ⟨rfl, hb6⟩
            rw [HFX.out]
            have HB6 := Lib.hid (HBD5.out.trans (hb6.mono HBD5.out.size))
            clear hb6
            go_simp
            refine HK.out _ _ (fun _ hS => HSY.out _ HB6.out) ?_
            clear HK K
            try simp only [Act.put, List.setIfInBounds_toArray, List.set_cons_zero, List.set_cons_succ, List.getElem_toArray, List.getElem_cons_zero, List.getElem_cons_succ]
            refine anyD_take (i := 8) (v := .tuple #[.int .i64 i1, .int .i64 (m1 : Int)]) rfl (by kernel_rfl) (by kernel_rfl) (by kernel_rfl) (fun _ _ _ h => h) (Or.inl ⟨by kernel_rfl, fun w => by go_simp⟩) ?_
            try simp only [Act.put, List.setIfInBounds_toArray, List.set_cons_zero, List.set_cons_succ, List.getElem_toArray, List.getElem_cons_zero, List.getElem_cons_succ]
            refine anyD_take (i := 9) (v := .int .i64 i1) rfl (by kernel_rfl) (by kernel_rfl) (by kernel_rfl) (fun _ _ _ h => h) (Or.inl ⟨by kernel_rfl, fun w => by go_simp⟩) ?_
            try simp only [Act.put, List.setIfInBounds_toArray, List.set_cons_zero, List.set_cons_succ, List.getElem_toArray, List.getElem_cons_zero, List.getElem_cons_succ]
            refine anyD_take (i := 10) (v := .int .i64 (m1 : Int)) rfl (by kernel_rfl) (by kernel_rfl) (by kernel_rfl) (fun _ _ _ h => h) (Or.inl ⟨by kernel_rfl, fun w => by go_simp⟩) ?_
            try simp only [Act.put, List.setIfInBounds_toArray, List.set_cons_zero, List.set_cons_succ, List.getElem_toArray, List.getElem_cons_zero, List.getElem_cons_succ]
            refine anyD_take (i := 11) (v := .int .i64 i1) rfl (by kernel_rfl) (by kernel_rfl) (by kernel_rfl) (fun _ _ _ h => h) (Or.inl ⟨by kernel_rfl, fun w => by go_simp⟩) ?_
            try simp only [Act.put, List.setIfInBounds_toArray, List.set_cons_zero, List.set_cons_succ, List.getElem_toArray, List.getElem_cons_zero, List.getElem_cons_succ]
            refine anyD_take (i := 12) (v := .int .i64 (m1 : Int)) rfl (by kernel_rfl) (by kernel_rfl) (by kernel_rfl) (fun _ _ _ h => h) (Or.inl ⟨by kernel_rfl, fun w => by go_simp⟩) ?_
            try simp only [Act.put, List.setIfInBounds_toArray, List.set_cons_zero, List.set_cons_succ, List.getElem_toArray, List.getElem_cons_zero, List.getElem_cons_succ]
            refine anyD_done (by kernel_rfl) ?_
            go_wp2_with fail
            go_roundw
            case rel => exact ⟨j + 1, q' + m1, i1, by omega, by omega, by go_num, by go_num, rfl, HWN, HB6.out⟩
            case measure => simp [intOf]; omega
          · have HEND : Hid (f = y ∧ q' = q + yn) := Lib.hid (by
              by_cases hf : 0 ≤ f
              · exact HWA.out.found hf
              · obtain rfl : j = way.length := by omega
                have := HWA.out
                rw [List.drop_length] at this
                exact this.stop)
            have hq2 : q' ≤ q + 1500 := by have := HEND.out.2; omega
            have hfb : j < way.length → decide (f < 0) = false := fun h => by simp; omega
            have HOW5 := Lib.hid (own_below HOW4.out HB.out)
            have HB5 := Lib.hid (HB4.out.trans (HB.out.mono HB4.out.size))
            have hyo : f = -1 ∨ 0 ≤ f := by rw [HEND.out.1]; exact HYO.out
            have HXE : Hid (X = (l.drop (k + 1)).foldl (gaStep C env ev) (putIn acc f, q')) := Lib.hid (by rw [HX2.out, HEND.out.1, HEND.out.2])
            have HPM := Lib.hid (put_met acc f hyo)
            obtain ⟨oA', ocap', hv10, hoc, hoe⟩ := list_of_own HOW5.out
            injection hv10 with e1 _ e3
            subst e1; subst e3
            have HOE := Lib.hid hoe
            have hs5 : w2.heap.size ≤ wp.heap.size := HB5.out.size
            clear hoe HEND HWA hyo hgo
            by_cases hjl : j < way.length
            · have hfb2 := hfb hjl
              have HF0 : Hid (0 ≤ f) := Lib.hid (by simpa using hfb2)
              clear hfb
              go_wp2_with fail
              go_loopw [19, 20] (fun mv jv wr => ∃ (j : Nat), j ≤ acc.length ∧ jv = .int .i64 (j : Int) ∧ mv = .bool (decide (f < 0) || (acc.take j).contains f) ∧ wr = wp) (fun _ jv _ => acc.length - (intOf jv).toNat)
              case atStart => exact ⟨0, Nat.zero_le _, rfl, by simp; exact HF0.out, rfl⟩
              case round =>
                obtain ⟨j3, hj3, rfl, rfl, rfl⟩ := hrel
                by_cases hlt3 : j3 < acc.length
                · obtain ⟨ob, of, rfl, hobl, hoc0⟩ := HOE.out j3 _ (List.getElem?_eq_getElem hlt3)
                  have c0 : wr.cell? ⟨ob, of + j3, none⟩ = some (.int .i64 acc[j3]) := by have := hoc0; unfold IntAt at this; rwa [Nat.mul_one] at this
                  have HTH := Lib.hid (take_has acc f hlt3)
                  generalize acc[j3] = z at *
                  obtain ⟨B', hB'⟩ : ∃ B', (acc.take (j3 + 1)).contains f = B' := ⟨_, rfl⟩
                  rw [hB'] at HTH
                  have HB' := Lib.hid hB'
                  clear hB'
                  generalize (acc.take j3).contains f = B at *
                  generalize decide (f < 0) = D at *
                  clear hoc0
                  cases hDB : (D || B) with
                  | true =>
                    have HN : Hid ((D || B') = true) := Lib.hid (by rw [HTH.out]; cases D <;> cases B <;> simp_all)
                    clear hDB
                    go_wp2_with fail
                    go_roundw
                    case rel => exact ⟨j3 + 1, by omega, by go_num, by rw [HB'.out, HN.out], trivial⟩
                    case measure => simp [intOf]; omega
                  | false =>
                    have HN : Hid ((D || B') = (z == f)) := Lib.hid (by rw [HTH.out]; cases D <;> cases B <;> simp_all)
                    clear hDB
                    go_wp2_with fail
                    go_roundw
                    case rel => exact ⟨j3 + 1, by omega, by go_num, by rw [HB'.out, HN.out], trivial⟩
                    case measure => simp [intOf]; omega
                · obtain rfl : j3 = acc.length := by omega
                  rw [List.take_length]
                  cases hDB : (decide (f < 0) || acc.contains f) with
                  | true =>
                    have HXF : Hid (X = (l.drop (k + 1)).foldl (gaStep C env ev) (acc, q')) := Lib.hid (by rw [HXE.out, HPM.out, if_pos hDB])
                    clear hDB
                    go_wp2_with fail
                    go_roundw
                    case rel => exact ⟨k + 1, q', acc, by omega, by omega, by omega, by go_num, rfl, HXF, HB5.out, HOW5⟩
                    case measure => simp [intOf]; omega
                  | false =>
                    have HXF : Hid (X = (l.drop (k + 1)).foldl (gaStep C env ev) (acc ++ [f], q')) := Lib.hid (by rw [HXE.out, HPM.out, if_neg (by rw [hDB]; simp)])
                    clear hDB
                    go_wp2_with (at_builtin; refine wpList_append_own_at _ rfl _ _ 37 rfl (w2.heap.size) 3 i0 (.int .i64 0) 1 8 Tryz.underlying37 HI.out HZ0.out HZ1.out HZ2.out rfl (by decide) _ _ _ rfl (HOW5.out.alloc _) ⟨wr.heap.size, 0, none⟩ 1 1 [.int .i64 f] rfl rfl ?c1 ?c2 ?c3 ?c4 ?c5 ?_)
                    case c1 => exact new_val _ _ _ _ (by simp)
                    case c2 => exact int_one _
                    case c3 => unfold maxLen; omega
                    case c4 => omega
                    case c5 => simp; omega
                    intro v' w7 hown' hgrow _ _
                    have HG := Lib.hid (Below.grown (B := w2.heap.size) (HB5.out.alloc HB5.out.size _) hgrow (by simp; omega) (fun g hg => by have := (HOW5.out.lt g hg).1; simpa using this))
                    have HO' := Lib.hid hown'
                    clear hown' hgrow
                    go_wp2_with fail
                    go_roundw
                    case rel => exact ⟨k + 1, q', acc ++ [f], by omega, by omega, by simp; omega, by go_num, rfl, HXF, HG.out, Lib.hid (by rw [intVals_snoc]; simpa using HO'.out)⟩
                    case measure => simp [intOf]; omega
            · clear hfb
              go_wp2_with fail
              go_loopw [19, 20] (fun mv jv wr => ∃ (j : Nat), j ≤ acc.length ∧ jv = .int .i64 (j : Int) ∧ mv = .bool (decide (f < 0) || (acc.take j).contains f) ∧ wr = wp) (fun _ jv _ => acc.length - (intOf jv).toNat)
              case atStart => exact ⟨0, Nat.zero_le _, rfl, by simp, rfl⟩
              case round =>
                obtain ⟨j3, hj3, rfl, rfl, rfl⟩ := hrel
                by_cases hlt3 : j3 < acc.length
                · obtain ⟨ob, of, rfl, hobl, hoc0⟩ := HOE.out j3 _ (List.getElem?_eq_getElem hlt3)
                  have c0 : wr.cell? ⟨ob, of + j3, none⟩ = some (.int .i64 acc[j3]) := by have := hoc0; unfold IntAt at this; rwa [Nat.mul_one] at this
                  have HTH := Lib.hid (take_has acc f hlt3)
                  generalize acc[j3] = z at *
                  obtain ⟨B', hB'⟩ : ∃ B', (acc.take (j3 + 1)).contains f = B' := ⟨_, rfl⟩
                  rw [hB'] at HTH
                  have HB' := Lib.hid hB'
                  clear hB'
                  generalize (acc.take j3).contains f = B at *
                  generalize decide (f < 0) = D at *
                  clear hoc0
                  cases hDB : (D || B) with
                  | true =>
                    have HN : Hid ((D || B') = true) := Lib.hid (by rw [HTH.out]; cases D <;> cases B <;> simp_all)
                    clear hDB
                    go_wp2_with fail
                    go_roundw
                    case rel => exact ⟨j3 + 1, by omega, by go_num, by rw [HB'.out, HN.out], trivial⟩
                    case measure => simp [intOf]; omega
                  | false =>
                    have HN : Hid ((D || B') = (z == f)) := Lib.hid (by rw [HTH.out]; cases D <;> cases B <;> simp_all)
                    clear hDB
                    go_wp2_with fail
                    go_roundw
                    case rel => exact ⟨j3 + 1, by omega, by go_num, by rw [HB'.out, HN.out], trivial⟩
                    case measure => simp [intOf]; omega
                · obtain rfl : j3 = acc.length := by omega
                  rw [List.take_length]
                  cases hDB : (decide (f < 0) || acc.contains f) with
                  | true =>
                    have HXF : Hid (X = (l.drop (k + 1)).foldl (gaStep C env ev) (acc, q')) := Lib.hid (by rw [HXE.out, HPM.out, if_pos hDB])
                    clear hDB
                    go_wp2_with fail
                    go_roundw
                    case rel => exact ⟨k + 1, q', acc, by omega, by omega, by omega, by go_num, rfl, HXF, HB5.out, HOW5⟩
                    case measure => simp [intOf]; omega
                  | false =>
                    have HXF : Hid (X = (l.drop (k + 1)).foldl (gaStep C env ev) (acc ++ [f], q')) := Lib.hid (by rw [HXE.out, HPM.out, if_neg (by rw [hDB]; simp)])
                    clear hDB
                    go_wp2_with (at_builtin; refine wpList_append_own_at _ rfl _ _ 37 rfl (w2.heap.size) 3 i0 (.int .i64 0) 1 8 Tryz.underlying37 HI.out HZ0.out HZ1.out HZ2.out rfl (by decide) _ _ _ rfl (HOW5.out.alloc _) ⟨wr.heap.size, 0, none⟩ 1 1 [.int .i64 f] rfl rfl ?c1 ?c2 ?c3 ?c4 ?c5 ?_)
                    case c1 => exact new_val _ _ _ _ (by simp)
                    case c2 => exact int_one _
                    case c3 => unfold maxLen; omega
                    case c4 => omega
                    case c5 => simp; omega
                    intro v' w7 hown' hgrow _ _
                    have HG := Lib.hid (Below.grown (B := w2.heap.size) (HB5.out.alloc HB5.out.size _) hgrow (by simp; omega) (fun g hg => by have := (HOW5.out.lt g hg).1; simpa using this))
                    have HO' := Lib.hid hown'
                    clear hown' hgrow
                    go_wp2_with fail
                    go_roundw
                    case rel => exact ⟨k + 1, q', acc ++ [f], by omega, by omega, by simp; omega, by go_num, rfl, HXF, HG.out, Lib.hid (by rw [intVals_snoc]; simpa using HO'.out)⟩
                    case measure => simp [intOf]; omega)
    · obtain rfl : k = l.length := by omega
      have HX2 : Hid (X = (acc, q)) := Lib.hid (by rw [HX.out, List.drop_length, List.foldl_nil])
      have HB := Lib.hid (HB2.out.trans (HBR.out.mono HB2.out.size))
      go_wp2_with fail
      go_ret2
      refine ⟨HB.out, _, by rw [HX2.out] <;> rfl, by rw [HX2.out]; exact own_lower hown.out HB2.out.size⟩
end Go.Proofs.YtfmlicpholjjhaaGreatDoor
