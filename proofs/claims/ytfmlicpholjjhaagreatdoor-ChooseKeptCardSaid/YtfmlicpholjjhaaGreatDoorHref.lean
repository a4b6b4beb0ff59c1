/- The contracts of the document's Ready, first, Leaves and Gather. -/
import Derived.Test.YtfmlicpholjjhaaGreatDoorHga
import Derived.Test.YtfmlicpholjjhaaGreatDoorErof
namespace Go.Proofs.YtfmlicpholjjhaaGreatDoor
open Go.ChangeShapes Go.WideShapes Go.ChangeAt Go.RowKit
set_option linter.unusedVariables false

theorem ans_cases (m : Md) (ts : List Tk) (hn : ∀ t ∈ ts, t.2.1 ≤ 9223372036854775807) (hef : ∀ x ∈ m.env, F64 x) : (∃ k n, ans m ts = .ok k n ∧ Good (.ok k n)) ∨ ∃ c : Nat, ans m ts = .bad (c : Int) ∧ 1 ≤ c ∧ c ≤ 13 := by
  cases hm : mayP ts with
  | true =>
    obtain ⟨hl, hV, htop⟩ := ans_may m hm
    have hg := vs_good m hn hef ts.length (Nat.le_refl _) hV
    rw [htop] at hg
    have hg := hg _ (List.mem_singleton.2 rfl)
    cases ha : ans m ts with
    | ok k n => rw [ha] at hg; exact .inl ⟨k, n, rfl, hg⟩
    | bad c =>
      rw [ha] at hg
      right
      rcases hg with rfl | rfl | rfl
      · exact ⟨4, rfl, by omega, by omega⟩
      · exact ⟨8, rfl, by omega, by omega⟩
      · exact ⟨9, rfl, by omega, by omega⟩
  | false => exact .inr ⟨2, ans_not m hm, by omega, by omega⟩
/-! ### an append, and two operations that may come up, in a region that draws its order -/
theorem wp_append_at {P : Program} {o : Oper} {a : Act} {w : World} {K : Act → World → Prop} {Q : Exit → Act → World → Prop} (s x : Operand) (t : TypeId)
    (ho : o.op = .call { callee := .builtin .append, args := #[s, x], argTypes := #[t, t] })
    (base : Nat) (e : TypeId) (i : TypeInfo) (z : Value) (size bytes : Nat) (ht : P.underlying t = some (.slice e)) (hi : P.info? e = some i) (hz : i.zero = some z)
    (hsize : i.size = size) (hby : i.bytes = bytes) (hzs : z.cells.size = size) (hsz : 0 < size)
    (v : Value) (n : Nat) (xs : List Value) (hs : a.eval s = v) (hown : w.ownsRow base e size v n xs)
    (ad : Addr) (m c : Nat) (news : List Value) (hx : a.eval x = .slice (some ad) m c) (hl : news.length = m * size) (hnews : ∀ j u, news[j]? = some u → w.cell? (ad.add j) = some u) (h1 : ∀ u ∈ news, u.oneCell' = true)
    (h63 : n + m ≤ maxLen) (hbytes : (n + m) * bytes ≤ 140737488355328) (hbase : base ≤ w.heap.size)
    (h : ∀ v' w', w'.ownsRow base e size v' (n + m) (xs ++ news) → w.grownBy w' v.ownBlock → (v'.ownBlock = v.ownBlock ∨ v'.ownBlock = some w.heap.size) → K (a.put o.dst v') w') :
    o.wp P a w K Q := by
  obtain ⟨v', w', hr, h2, h3, h4, h5⟩ := run_append_own_at (P := P) w base t o.type e i z size bytes ht hi hz hsize hby hzs hsz v n xs hown ad m c news hl hnews h1 h63 hbytes hbase
  unfold Oper.wp execOp
  simp only [ho, resolve, invoke, builtin, Sem.run_bind, Sem.run_pure, Result.andThen_ok, List.map_toArray, List.map_cons, List.map_nil, hs, hx, hr]
  exact h _ _ h2 h3 h5
theorem anyD_two {P : Program} {ops : Array Oper} {Q : Exit → Act → World → Prop} {md : Region.Mode} {S : World → Prop} {D : Nat → Bool} {i j : Nat} {oi oj : Oper} {fuel : Nat} {listed : Array Bool} {a : Act} {w : World}
    (hi : ops[i]? = some oi) (hgi : oi.guard = none) (hj : ops[j]? = some oj) (hgj : oj.guard = none) (hr : Region.ready md ops listed = [i, j])
    (h1 : ∀ K : Act → World → Prop, Hid (∀ a' w', (D i = false → S w → S w') → anyD P md ops Q S D fuel (listed.setIfInBounds i true) a' w' → K a' w') → oi.wp P a w K Q)
    (h2 : ∀ K : Act → World → Prop, Hid (∀ a' w', (D j = false → S w → S w') → anyD P md ops Q S D fuel (listed.setIfInBounds j true) a' w' → K a' w') → oj.wp P a w K Q) : anyD P md ops Q S D (fuel + 1) listed a w := by
  refine ⟨fun h0 => (by rw [hr] at h0; cases h0), fun k hk => ?_⟩
  rw [hr] at hk
  rcases List.mem_cons.1 hk with rfl | hk
  · unfold wpOp
    rw [hi]
    simp only [Region.wanted, hgi, if_true]
    exact .inl (h1 _ (Lib.hid fun a' w' h1 h2 => ⟨h1, h2⟩))
  · obtain rfl := List.mem_singleton.1 hk
    unfold wpOp
    rw [hj]
    simp only [Region.wanted, hgj, if_true]
    exact .inl (h2 _ (Lib.hid fun a' w' h1 h2 => ⟨h1, h2⟩))
/-! ### Ready -/
set_option maxHeartbeats 4000000 in
set_option maxRecDepth 100000 in
theorem rready_any (t : Tr) (vt va ve : Value) (env : List Int) (ev : Int) (w : World) (hs : t.guard.size ≤ 1000000) (hE : NumsAt w ve env) (hel : env.length ≤ 1000) (hef : ∀ x ∈ env, F64 x) :
    Calls Tryz.prog 10 #[trVal t vt va, ve, .int .i64 ev] w fun e w' => e = .returned (.tuple #[.bool (rdyV env ev t).1, .bool (rdyV env ev t).2]) ∧ Below w.heap.size w w' := by
  have HHO := Lib.hid (fun (W : World) (h : Below w.heap.size w W) => rof_any t.guard ve env W hs (hE.below h) hel hef)
  have HAC := Lib.hid (fun o (ho : parseAns t.guard.data.toList = .toks o) => ans_cases ⟨false, env, 0⟩ o (parse_toks ho).2.1 hef)
  have HB0 := Lib.hid (below_box w (trBox t vt va))
  have hz := size_toList t.guard
  by_cases he : t.ev = ev
  · have HR : Hid (rdyV env ev t = gdV t.guard env) := Lib.hid (if_pos he)
    have heb : (t.ev != ev) = false := by simp [he]
    generalize rdyV env ev t = R at *
    obtain ⟨src, e0, guard, tgts, inner, acts⟩ := t
    simp only at HHO HAC HB0 HR heb hz hs
    clear hE hef he
    by_cases h0 : guard.size = 0
    · have HR2 : Hid (R = (true, false)) := Lib.hid (by rw [HR.out]; exact if_pos h0)
      rw [show decide (guard.size = 0) = true by simpa using h0] at hz
      have hz3 : guard.toList = [] := by simpa using hz
      clear h0 HR HHO HAC
      go_enter Tryz.func10, Tryz.ntmps10
      go_wp2_with fail
      go_ret2
      exact ⟨by rw [HR2.out] <;> rfl, HB0.out⟩
    · have HR2 : Hid (R = gdA (parseAns guard.data.toList) env) := Lib.hid (by rw [HR.out]; exact if_neg h0)
      generalize parseAns guard.data.toList = a at *
      rw [show decide (guard.size = 0) = false by simpa using h0] at hz
      have hz3 : ¬ guard.toList = [] := by intro h; rw [h] at hz; cases hz
      clear h0 HR
      cases a with
      | toks o =>
        rcases HAC.out o rfl with ⟨k, n, hk, _⟩ | ⟨c, hk, hc1, hc13⟩
        · have HK := Lib.hid hk
          have HR3 : Hid (R = if k = 2 then (decide (n = 1), false) else (false, true)) := Lib.hid (by rw [HR2.out]; unfold gdA; simp only; rw [hk])
          clear hk HR2
          by_cases h2 : k = 2
          · have HR4 : Hid (R = (decide (n = 1), false)) := Lib.hid (by rw [HR3.out, if_pos h2])
            have hkb : (k != 2) = false := by simp [h2]
            clear h2
            go_enter Tryz.func10, Tryz.ntmps10
            go_wp2_with fail
            refine (HHO.out _ HB0.out).mono ?_
            rintro e w1 ⟨hb1, he⟩
            have he' : e = .returned (.tuple #[.agg #[.int .i64 k, .int .i64 n], .int .i64 0, .int .i64 (-1)]) := by have h : e = .returned (.tuple #[.agg #[.int .i64 (ans ⟨false, env, 0⟩ o).kind, .int .i64 (ans ⟨false, env, 0⟩ o).num], .int .i64 (ans ⟨false, env, 0⟩ o).code, .int .i64 (-1)]) := he; rw [HK.out] at h; exact h
            subst he'
            have HB1 := Lib.hid ((HB0.out.trans (hb1.mono HB0.out.size)).alloc (Nat.le_trans HB0.out.size hb1.size) (.cells #[.int .i64 k, .int .i64 n] 62))
            clear he hb1
            go_wp2_with fail
            go_ret2
            exact ⟨by rw [HR4.out] <;> rfl, HB1.out⟩
          · have HR4 : Hid (R = (false, true)) := Lib.hid (by rw [HR3.out, if_neg h2])
            have hkb : (k != 2) = true := by simpa using h2
            clear h2
            go_enter Tryz.func10, Tryz.ntmps10
            go_wp2_with fail
            refine (HHO.out _ HB0.out).mono ?_
            rintro e w1 ⟨hb1, he⟩
            have he' : e = .returned (.tuple #[.agg #[.int .i64 k, .int .i64 n], .int .i64 0, .int .i64 (-1)]) := by have h : e = .returned (.tuple #[.agg #[.int .i64 (ans ⟨false, env, 0⟩ o).kind, .int .i64 (ans ⟨false, env, 0⟩ o).num], .int .i64 (ans ⟨false, env, 0⟩ o).code, .int .i64 (-1)]) := he; rw [HK.out] at h; exact h
            subst he'
            have HB1 := Lib.hid ((HB0.out.trans (hb1.mono HB0.out.size)).alloc (Nat.le_trans HB0.out.size hb1.size) (.cells #[.int .i64 k, .int .i64 n] 62))
            clear he hb1
            go_wp2_with fail
            go_ret2
            exact ⟨by rw [HR4.out] <;> rfl, HB1.out⟩
        · have HK := Lib.hid hk
          have HR3 : Hid (R = (false, true)) := Lib.hid (by rw [HR2.out]; unfold gdA; simp only; rw [hk])
          have hcb : ((c : Int) != 0) = true := by rw [bne_iff_ne]; omega
          clear hk HR2
          go_enter Tryz.func10, Tryz.ntmps10
          go_wp2_with fail
          refine (HHO.out _ HB0.out).mono ?_
          rintro e w1 ⟨hb1, he⟩
          have he' : e = .returned (.tuple #[.agg #[.int .i64 0, .int .i64 0], .int .i64 (c : Int), .int .i64 (-1)]) := by have h : e = .returned (.tuple #[.agg #[.int .i64 (ans ⟨false, env, 0⟩ o).kind, .int .i64 (ans ⟨false, env, 0⟩ o).num], .int .i64 (ans ⟨false, env, 0⟩ o).code, .int .i64 (-1)]) := he; rw [HK.out] at h; exact h
          subst he'
          have HB1 := Lib.hid ((HB0.out.trans (hb1.mono HB0.out.size)).alloc (Nat.le_trans HB0.out.size hb1.size) (.cells #[.int .i64 0, .int .i64 0] 62))
          clear he hb1
          go_wp2_with fail
          go_ret2
          exact ⟨by rw [HR3.out] <;> rfl, HB1.out⟩
      | form k =>
        have HR3 : Hid (R = (false, true)) := Lib.hid HR2.out
        clear HR2
        go_enter Tryz.func10, Tryz.ntmps10
        go_wp2_with fail
        refine (HHO.out _ HB0.out).mono ?_
        rintro e w1 ⟨hb1, he⟩
        have he' : e = .returned (.tuple #[.agg #[.int .i64 0, .int .i64 0], .int .i64 2, .int .i64 k]) := he
        subst he'
        have HB1 := Lib.hid ((HB0.out.trans (hb1.mono HB0.out.size)).alloc (Nat.le_trans HB0.out.size hb1.size) (.cells #[.int .i64 0, .int .i64 0] 62))
        clear he hb1
        go_wp2_with fail
        go_ret2
        exact ⟨by rw [HR3.out] <;> rfl, HB1.out⟩
      | large =>
        have HR3 : Hid (R = (false, true)) := Lib.hid HR2.out
        clear HR2
        go_enter Tryz.func10, Tryz.ntmps10
        go_wp2_with fail
        refine (HHO.out _ HB0.out).mono ?_
        rintro e w1 ⟨hb1, he⟩
        have he' : e = .returned (.tuple #[.agg #[.int .i64 0, .int .i64 0], .int .i64 3, .int .i64 (-1)]) := he
        subst he'
        have HB1 := Lib.hid ((HB0.out.trans (hb1.mono HB0.out.size)).alloc (Nat.le_trans HB0.out.size hb1.size) (.cells #[.int .i64 0, .int .i64 0] 62))
        clear he hb1
        go_wp2_with fail
        go_ret2
        exact ⟨by rw [HR3.out] <;> rfl, HB1.out⟩
  · have HR : Hid (rdyV env ev t = (false, false)) := Lib.hid (if_neg he)
    generalize rdyV env ev t = R at *
    have heb : (t.ev != ev) = true := by simpa using he
    obtain ⟨src, e0, guard, tgts, inner, acts⟩ := t
    simp only at HHO HB0 heb
    clear hE hef he hz
    go_enter Tryz.func10, Tryz.ntmps10
    go_wp2_with fail
    go_ret2
    exact ⟨by rw [HR.out] <;> rfl, HB0.out⟩
/-! ### first -/
set_option maxHeartbeats 4000000 in
set_option maxRecDepth 100000 in
theorem rfirst_any (vs vt ve : Value) (s ev : Int) (C : Ch) (env : List Int) (w : World) (hC : ChHas w vs vt C) (hF : fewB C = true) (hE : NumsAt w ve env) (hel : env.length ≤ 1000) (hef : ∀ x ∈ env, F64 x) :
    Calls Tryz.prog 30 #[.agg #[.int .i64 C.vars, vs, vt], .int .i64 s, ve, .int .i64 ev] w fun e w' => e = .returned (.tuple #[.int .i64 (frS env ev s C.trs 0 0).1, .int .i64 ((frS env ev s C.trs 0 0).2 : Int)]) ∧ Below w.heap.size w w' := by
  have hl60 : C.trs.length ≤ 60 := (few_parts hF).2.1
  have HIR := Lib.hid (fun (k : Nat) (hk : k < C.trs.length) (W : World) (h : Below w.heap.size w W) (vt va : Value) => rready_any (trAt C.trs (k : Int)) vt va ve env ev W (by have := few_guard hF hk; omega) (hE.below h) hel hef)
  have HNR := Lib.hid (fun t => rdy_not env ev t)
  obtain ⟨sA, scap, rA, rcap, rfl, rfl⟩ := hC.slices
  have HC := Lib.hid hC
  have HX : ∃ X, X = frS env ev s C.trs 0 0 := ⟨_, rfl⟩
  obtain ⟨X, hX⟩ := HX
  rw [← hX]
  have HX := Lib.hid hX
  clear hF hC hE hef hX
  go_enter Tryz.func30, Tryz.ntmps30
  go_wp2_with fail
  go_loopw [10, 11] (fun v i wr => ∃ j m : Nat, j ≤ C.trs.length ∧ m ≤ j ∧ i = .int .i64 (j : Int) ∧ v = .int .i64 (m : Int) ∧ Hid (X = frS env ev s (C.trs.drop j) j m) ∧ Below (w.alloc (chBox C.vars (.slice sA C.sts.length scap) (.slice rA C.trs.length rcap))).heap.size (w.alloc (chBox C.vars (.slice sA C.sts.length scap) (.slice rA C.trs.length rcap))) wr) (fun _ i _ => C.trs.length - (intOf i).toNat)
  case atStart => exact ⟨0, 0, Nat.zero_le _, Nat.zero_le _, rfl, rfl, HX, Below.refl _ _⟩
  case round =>
    clear HX
    obtain ⟨j, m, hj, hm, rfl, rfl, HX, hb⟩ := hrel
    obtain ⟨wo, rfl⟩ : ∃ wo : World, wo = wr := ⟨_, rfl⟩
    obtain ⟨x0, x1, x2⟩ := box_later hb
    have HB := Lib.hid hb
    have HBW := Lib.hid (below_boxed hb)
    by_cases hlt : j < C.trs.length
    · obtain ⟨b2, o2, cap2, wt, wa, hsl, _, hbl2, hst, hhas⟩ := HC.out.tra hlt
      injection hsl with e1 e2 e3
      subst e1
      obtain ⟨c0, c1, c2, c3, c4, c5⟩ := hst.below HBW.out hbl2
      have HIR2 := Lib.hid (HIR.out j hlt)
      have htr : C.trs[j] = trAt C.trs (j : Int) := by
        have := trAt_nat hlt
        rw [List.getElem?_eq_getElem hlt] at this
        injection this
      have HX2 : Hid (X = frS env ev s (trAt C.trs (j : Int) :: C.trs.drop (j + 1)) j m) := Lib.hid (by rw [HX.out, List.drop_eq_getElem_cons hlt, htr])
      generalize trAt C.trs (j : Int) = T at *
      obtain ⟨aA, acap, bA, bcap, rfl, rfl⟩ := hhas.slices
      obtain ⟨src, e0, guard, tgts, inner, acts⟩ := T
      simp only at c0 c1 c2 c3 c4 c5
      have HIR3 := Lib.hid (HIR2.out _ HBW.out (.slice aA tgts.length acap) (.slice bA acts.length bcap))
      clear hst hhas hb HX HIR2 htr e3 e2
      by_cases hs : src = s
      · have hsb : (src != s) = false := by simp [hs]
        cases hr : rdyV env ev ⟨src, e0, guard, tgts, inner, acts⟩ with
        | mk r1 r2 =>
          have HN2 : Hid (r1 = true → r2 = false) := Lib.hid (fun h => by have := HNR.out ⟨src, e0, guard, tgts, inner, acts⟩; rw [hr] at this; exact this h)
          rw [hr] at HIR3
          have HX3 : Hid (X = (if r1 = true then ((j : Int), m) else frS env ev s (C.trs.drop (j + 1)) (j + 1) (m + if r2 = true then 1 else 0))) := Lib.hid (by rw [HX2.out, frS, if_pos hs, hr])
          generalize tgts.length = tl at *
          generalize acts.length = al at *
          clear HX2 hr hs
          cases r1 with
          | true =>
            obtain rfl := HN2.out rfl
            have HX4 : Hid (X = ((j : Int), m)) := Lib.hid (by rw [HX3.out, if_pos rfl])
            clear HX3
            go_wp2_with fail
            refine HIR3.out.mono ?_
            rintro e w1 ⟨rfl, hb1⟩
            have HB1 := Lib.hid (HBW.out.trans (hb1.mono HBW.out.size))
            clear hb1
            go_wp2_with fail
            go_ret2
            exact ⟨by rw [HX4.out] <;> rfl, HB1.out⟩
          | false =>
            have HX4 : Hid (X = frS env ev s (C.trs.drop (j + 1)) (j + 1) (m + if r2 = true then 1 else 0)) := Lib.hid (by rw [HX3.out, if_neg (by simp)])
            clear HX3
            cases r2 with
            | true =>
              go_wp2_with fail
              refine HIR3.out.mono ?_
              rintro e w1 ⟨rfl, hb1⟩
              have HB1 := Lib.hid (HB.out.trans (hb1.mono HB.out.size))
              clear hb1
              go_wp2_with fail
              go_roundw
              case rel => exact ⟨j + 1, m + 1, by omega, by omega, by go_num, by go_num, HX4, HB1.out⟩
              case measure => simp [intOf]; omega
            | false =>
              go_wp2_with fail
              refine HIR3.out.mono ?_
              rintro e w1 ⟨rfl, hb1⟩
              have HB1 := Lib.hid (HB.out.trans (hb1.mono HB.out.size))
              clear hb1
              go_wp2_with fail
              go_roundw
              case rel => exact ⟨j + 1, m, by omega, by omega, by go_num, rfl, HX4, HB1.out⟩
              case measure => simp [intOf]; omega
      · have hsb : (src != s) = true := by simpa using hs
        have HX3 : Hid (X = frS env ev s (C.trs.drop (j + 1)) (j + 1) m) := Lib.hid (by rw [HX2.out, frS, if_neg hs])
        generalize tgts.length = tl at *
        generalize acts.length = al at *
        clear HX2 hs HIR3
        go_wp2_with fail
        go_roundw
        case rel => exact ⟨j + 1, m, by omega, by omega, by go_num, rfl, HX3, HB.out⟩
        case measure => simp [intOf]; omega
    · obtain rfl : j = C.trs.length := by omega
      have HX2 : Hid (X = (-1, m)) := Lib.hid (by rw [HX.out, List.drop_length, frS])
      go_wp2_with fail
      go_ret2
      exact ⟨by rw [HX2.out] <;> rfl, HBW.out⟩
/-! ### Leaves -/
set_option maxHeartbeats 4000000 in
set_option maxRecDepth 100000 in
theorem rleaves_any (n : Nat) (vs vt : Value) (C : Ch) (w : World) (hC : ChHas w vs vt C) (hl : C.sts.length ≤ 31) (hn : n < 4294967296) :
    Calls Tryz.prog 17 #[.agg #[.int .i64 C.vars, vs, vt], .int .u32 (n : Int)] w (KPost (lvL C.sts n) w) := by
  obtain ⟨i0, hi, hz0, hz1, hz2⟩ := info_parts Tryz.info3
  have HI := Lib.hid hi
  have HZ0 := Lib.hid hz0
  have HZ1 := Lib.hid hz1
  have HZ2 := Lib.hid hz2
  have HC := Lib.hid hC
  obtain ⟨sA, scap, rA, rcap, rfl, rfl⟩ := hC.slices
  have HSU := Lib.hid (fun k => lvU_succ C.sts n k)
  have HLE := Lib.hid (fun k => lvU_len C.sts n k)
  have HLP : Hid (∀ k, leafP C.sts n k = (bitN n k && leafB (stAt C.sts (k : Int)).kind)) := Lib.hid (fun k => rfl)
  have HFN : Hid (lvL C.sts n = lvU C.sts n C.sts.length) := Lib.hid rfl
  have HHB := Lib.hid (fun (k : Nat) (hk : k ≤ 1000) (W : World) => hasBit_any n k hn hk W)
  generalize lvU C.sts n = U at *
  generalize leafP C.sts n = P at *
  clear hi hz0 hz1 hz2 hC
  go_enter Tryz.func17, Tryz.ntmps17
  go_wp2_with fail
  go_loopw [5, 6] (fun v i wr => ∃ k : Nat, k ≤ C.sts.length ∧ i = .int .i64 (k : Int) ∧ Below (w.alloc (chBox C.vars (.slice sA C.sts.length scap) (.slice rA C.trs.length rcap))).heap.size (w.alloc (chBox C.vars (.slice sA C.sts.length scap) (.slice rA C.trs.length rcap))) wr ∧ Hid (wr.ownsRow (w.heap.size + 1) 3 1 v (U k).length (intVals (U k)))) (fun _ i _ => C.sts.length - (intOf i).toNat)
  case atStart =>
    refine ⟨0, Nat.zero_le _, rfl, Below.refl _ _, Lib.hid ?_⟩
    have : U 0 = [] := List.eq_nil_of_length_eq_zero (Nat.le_zero.1 (HLE.out 0))
    rw [this]
    exact World.ownsRow_nil _ _ _ _
  case round =>
    obtain ⟨k, hk, rfl, hb, hown⟩ := hrel
    obtain ⟨wo, rfl⟩ : ∃ wo : World, wo = wr := ⟨_, rfl⟩
    obtain ⟨x0, x1, x2⟩ := box_later hb
    have HB := Lib.hid hb
    by_cases hlt : k < C.sts.length
    · obtain ⟨b, o, cap', vi, ve, vx, hsl, _, hbl, hst, hhas⟩ := HC.out.st hlt
      injection hsl with e1 e2 e3
      subst e1
      obtain ⟨c0, c1, c2, c3, c4⟩ := hst.below (below_boxed hb) hbl
      have hpk := HLP.out k
      have hle := HLE.out k
      have hbs : w.heap.size + 1 ≤ wo.heap.size := by have := hb.size; simpa using this
      have HSK := Lib.hid (HSU.out k)
      have HHK := Lib.hid (HHB.out k (by omega) wo)
      generalize (stAt C.sts (k : Int)).kind = K at *
      generalize P k = p at *
      have HPK := Lib.hid hpk
      clear hpk hb hst hhas e2 e3
      cases hbit : bitN n k with
      | false =>
        have hd : decide (n / 2 ^ k % 2 = 1) = false := hbit
        rw [hd] at HHK
        rw [hbit] at HPK
        clear hbit hd
        go_wp2_with fail
        refine HHK.out.mono ?_
        rintro e w1 ⟨rfl, rfl⟩
        go_wp2_with fail
        go_roundw
        case rel => exact ⟨k + 1, by omega, by go_num, HB.out, Lib.hid (by rw [HSK.out, if_neg (by rw [HPK.out]; simp), List.append_nil]; exact hown.out)⟩
        case measure => simp [intOf]; omega
      | true =>
        have hd : decide (n / 2 ^ k % 2 = 1) = true := hbit
        rw [hd] at HHK
        rw [hbit] at HPK
        clear hbit hd
        by_cases h1 : K = 1
        · have h1b : (K == 1) = true := by simpa using h1
          have HLB : Hid (leafB K = true) := Lib.hid (by unfold leafB; simp [h1])
          clear h1
          go_wp2_with fail
          refine HHK.out.mono ?_
          rintro e w1 ⟨rfl, rfl⟩

          go_wp2_with (at_builtin; refine wpList_append_own_at _ rfl _ _ 37 rfl (w.heap.size + 1) 3 i0 (.int .i64 0) 1 8 Tryz.underlying37 HI.out HZ0.out HZ1.out HZ2.out rfl (by decide) _ _ _ rfl (hown.out.alloc _) ⟨wo.heap.size, 0, none⟩ 1 1 [.int .i64 (k : Int)] rfl rfl ?c1 ?c2 ?c3 ?c4 ?c5 ?_)
          case c1 => exact new_val _ _ _ _ (by simp)
          case c2 => exact int_one _
          case c3 => unfold maxLen; omega
          case c4 => omega
          case c5 => simp; omega
          intro v' w2 hown' hgrow _ _
          have HG := Lib.hid (Below.grown (HB.out.alloc HB.out.size _) hgrow (by simp; omega) (fun g hg => by have := (hown.out.lt g hg).1; simpa using this))
          have HO' := Lib.hid hown'
          clear hown' hgrow
          go_wp2_with fail
          go_roundw
          case rel => exact ⟨k + 1, by omega, by go_num, HG.out, Lib.hid (by rw [HSK.out, if_pos (by rw [HPK.out, HLB.out]; rfl), intVals_snoc]; simpa using HO'.out)⟩
          case measure => simp [intOf]; omega
        · have h1b : (K == 1) = false := by simpa using h1
          by_cases h4 : K = 4
          · have h4b : (K == 4) = true := by simpa using h4
            have HLB : Hid (leafB K = true) := Lib.hid (by unfold leafB; simp [h4])
            clear h1 h4
            go_wp2_with fail
            refine HHK.out.mono ?_
            rintro e w1 ⟨rfl, rfl⟩

            go_wp2_with (at_builtin; refine wpList_append_own_at _ rfl _ _ 37 rfl (w.heap.size + 1) 3 i0 (.int .i64 0) 1 8 Tryz.underlying37 HI.out HZ0.out HZ1.out HZ2.out rfl (by decide) _ _ _ rfl (hown.out.alloc _) ⟨wo.heap.size, 0, none⟩ 1 1 [.int .i64 (k : Int)] rfl rfl ?c1 ?c2 ?c3 ?c4 ?c5 ?_)
            case c1 => exact new_val _ _ _ _ (by simp)
            case c2 => exact int_one _
            case c3 => unfold maxLen; omega
            case c4 => omega
            case c5 => simp; omega
            intro v' w2 hown' hgrow _ _
            have HG := Lib.hid (Below.grown (HB.out.alloc HB.out.size _) hgrow (by simp; omega) (fun g hg => by have := (hown.out.lt g hg).1; simpa using this))
            have HO' := Lib.hid hown'
            clear hown' hgrow
            go_wp2_with fail
            go_roundw
            case rel => exact ⟨k + 1, by omega, by go_num, HG.out, Lib.hid (by rw [HSK.out, if_pos (by rw [HPK.out, HLB.out]; rfl), intVals_snoc]; simpa using HO'.out)⟩
            case measure => simp [intOf]; omega
          · have h4b : (K == 4) = false := by simpa using h4
            have HLB : Hid (leafB K = false) := Lib.hid (by unfold leafB; simp [h1, h4])
            clear h1 h4
            go_wp2_with fail
            refine HHK.out.mono ?_
            rintro e w1 ⟨rfl, rfl⟩
            go_wp2_with fail
            go_roundw
            case rel => exact ⟨k + 1, by omega, by go_num, HB.out, Lib.hid (by rw [HSK.out, if_neg (by rw [HPK.out, HLB.out]; simp), List.append_nil]; exact hown.out)⟩
            case measure => simp [intOf]; omega
    · obtain rfl : k = C.sts.length := by omega
      go_wp2_with fail
      go_ret
      exact ⟨below_boxed HB.out, _, rfl, by rw [HFN.out]; exact own_lower hown.out (by omega)⟩
end Go.Proofs.YtfmlicpholjjhaaGreatDoor
