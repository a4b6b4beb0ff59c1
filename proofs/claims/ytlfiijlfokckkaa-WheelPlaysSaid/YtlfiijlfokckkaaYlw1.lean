/- The law WheelPlays: it holds. -/
import Derived.Test.YtlfiijlfokckkaaYplp
import Derived.Test.YtlfiijlfokckkaaYlw2
import Derived.Test.YtlfiijlfokckkaaYdrw
namespace Go.Proofs.Ytlfiijlfokckkaa
open Go.ChangeShapes Go.WideShapes Go.ChangeAt Go.RowKit Go.Maps
set_option linter.unusedVariables false

theorem Own.drew {g m : Nat} {vs : Nat → Value} {b : Nat} (h : Own g m vs b) : Own g m vs b := h
theorem bx_kb {O : Nat → Prop} {w w' : World} {b : Nat} {cs : Array Value} (h : Blk w b 28 cs) (hk : KB O w w') (hn : ¬ O b) : Blk w' b 28 cs := h.kb hk hn
theorem has_at {S : List Tm} {a : Nat} (ha : a < S.length) : hasId S S[a].id = true := by
  unfold hasId
  rw [List.any_eq_true]
  exact ⟨S[a], List.getElem_mem ha, by simp⟩
theorem own_lt1 {w : World} {B n : Nat} {v : Value} {xs : List Value} (h : w.ownsRow B 30 3 v n xs) (b : Nat) (hb : v.ownBlock = some b) : B ≤ b := by
  rcases h.2 with ⟨h1, _⟩ | ⟨g', cap, cur, h1, h2, _⟩
  · rw [h1] at hb; cases hb
  · rw [h1] at hb
    injection hb with hb
    have : g' = b := hb
    subst this
    exact h2
theorem tms_take {w : World} {A : Option Addr} {n cap a : Nat} {S : List Tm} (h : TmsAt w (.slice A n cap) S) (ha : a ≤ S.length) : TmsAt w (.slice A a cap) (S.take a) := by
  obtain ⟨A', cap', h1, h2, h3⟩ := h
  injection h1 with e1 e2 e3
  subst e1; subst e3
  refine ⟨A, cap, by rw [List.length_take, Nat.min_eq_left ha], by rw [List.length_take]; omega, fun i x hx => ?_⟩
  rw [List.getElem?_take] at hx
  split at hx
  · exact h3 i x hx
  · cases hx
theorem tms_drop {w : World} {b o o' n cap k : Nat} {S : List Tm} (h : TmsAt w (.slice (some ⟨b, o, none⟩) n cap) S) (hk : k ≤ S.length) (ho : cap ≤ k ∨ o' = o + k * 3) : TmsAt w (.slice (some ⟨b, o', none⟩) (S.length - k) (cap - k)) (S.drop k) := by
  obtain ⟨A', cap', h1, h2, h3⟩ := h
  injection h1 with e1 e2 e3
  subst e1; subst e3
  refine ⟨some ⟨b, o', none⟩, cap - k, by rw [List.length_drop], by rw [List.length_drop]; omega, fun i x hx => ?_⟩
  rw [List.getElem?_drop] at hx
  have hlt := (List.getElem?_eq_some_iff.1 hx).1
  rcases ho with ho | ho
  · omega
  · obtain ⟨b', o'', hb, hbl, hc⟩ := h3 (k + i) x hx
    injection hb with hb
    injection hb with hb1 hb2
    subst hb1; subst hb2
    refine ⟨b, o', rfl, hbl, ?_⟩
    rw [ho, show o + k * 3 + i * 3 = o + (k + i) * 3 by omega]
    exact hc
theorem pickF3 (c : Int) : pickF c 3 = 0 ∨ pickF c 3 = 1 ∨ pickF c 3 = 2 := by
  have := pickF_in c (n := 3) (by omega)
  omega

set_option maxHeartbeats 16000000 in
set_option maxRecDepth 100000 in
theorem plays_any (va : Value) (l : List Dd) (w : World) (ha : RowsAt 4 DdAt w va l) (hfa : ∀ (i : Nat) (x : Dd), l[i]? = some x → DdG x) (hsa : Short l.length) :
    Calls Try.prog 3 #[va] w fun e w' => e = .returned (.bool true) ∧ Below w.heap.size w w' := by
  have HUP := Lib.hid up_any
  have HNEW := Lib.hid new_any
  obtain ⟨Aa, capa, rfl, hca, hcella⟩ := ha
  have HCA := Lib.hid hcella
  have HFA := Lib.hid hfa
  have nn := neq_nil_nil
  have n5 := fun W => (neq_codes W).1
  have n1 := fun W => (neq_codes W).2.1
  have n6 := fun W => (neq_codes W).2.2
  unfold Short at hsa
  obtain ⟨i0, hi0, hz0, hz1, hz2⟩ := info_parts Try.info30
  have HI := Lib.hid hi0
  have HZ0 := Lib.hid hz0
  have HZ1 := Lib.hid hz1
  have HZ2 := Lib.hid hz2
  clear hcella hfa hi0 hz0 hz1 hz2
  by_cases hbig : 120 < l.length
  · have h1z : (120 : Int) < (l.length : Int) := by omega
    clear hbig
    go_enter Try.func3, Try.ntmps3
    go_wp2_with fail
    refine (HUP.out _).mono ?_
    rintro e w1 ⟨rfl, hb1⟩
    have HB1 := Lib.hid hb1
    clear hb1
    go_wp2_with fail
    refine (HNEW.out _).mono ?_
    rintro e w2 ⟨hb2, hs2, rfl, _⟩
    have HB2 := Lib.hid (HB1.out.trans (hb2.mono HB1.out.size))
    clear hb2 hs2
    go_wp2_with fail
    go_ret
    exact ⟨rfl, HB2.out⟩
  · have h1z : ¬ (120 : Int) < (l.length : Int) := by omega
    go_enter Try.func3, Try.ntmps3
    go_wp2_with fail
    refine (HUP.out _).mono ?_
    rintro e w1 ⟨rfl, hb1⟩
    have HB1 := Lib.hid hb1
    clear hb1
    go_wp2_with fail
    refine (HNEW.out _).mono ?_
    rintro e w2 ⟨hb2, hs2, rfl, hw2⟩
    have HB2 := Lib.hid (HB1.out.trans (hb2.mono HB1.out.size))
    obtain ⟨g, hg⟩ : ∃ g, g = w1.heap.size + 1 := ⟨_, rfl⟩
    obtain ⟨m, hm⟩ : ∃ m, m = w1.heap.size := ⟨_, rfl⟩
    rw [← hg] at hw2
    rw [← hg]
    have HV2 : Hid (WhAt w.heap.size w2 g m (fun _ => .slice none 0 0) 0 []) := Lib.hid (by
      have := hw2
      rw [← hm] at this
      exact ⟨this.blk, this.ids, fun k hk => World.ownsRow_nil _ _ _ _, this.apart, Nat.le_trans (by rw [hm]; exact HB1.out.size) this.Bg, by rw [hm]; exact HB1.out.size⟩)
    clear hb2 hs2 hw2 hg hm
    go_wp2_with fail
    go_loopg [7, 6, 5] l.length (fun kx s7 s6 s5 wr => ∃ (i : Nat) (now : Int) (vs : Nat → Value) (S : List Tm), s7 = .int .i64 (i : Int) ∧ s6 = .int .i64 now ∧ i ≤ l.length ∧ l.length - i ≤ kx ∧ Hid (WhAt w.heap.size wr g m vs now S) ∧ Hid (Sound now S) ∧ Hid (OwnT wr w.heap.size s5 S) ∧ Hid (∀ b, Own g m vs b → s5.ownBlock ≠ some b) ∧ Hid (Below w.heap.size w wr))
    case atStart => exact ⟨0, 0, _, [], rfl, rfl, Nat.zero_le _, by omega, HV2, Lib.hid sound_nil, Lib.hid (OwnT.nil _ _), Lib.hid fun b hb hc => (by cases hc), HB2⟩
    case round =>
      clear HV2 HB1 HB2
      obtain ⟨i, now, vs, S, hs7, hs6, hi, hkx, HV, HS, HO, HON, HB⟩ := hrel
      subst hs7
      subst hs6
      obtain ⟨wi, rfl⟩ : ∃ W : World, W = wr := ⟨_, rfl⟩
      by_cases hlt : i < l.length
      · have hltz : (i : Int) < (l.length : Int) := by omega
        have hx := List.getElem?_eq_getElem hlt
        obtain ⟨b, o, rfl, hbl, hc⟩ := HCA.out i _ hx
        obtain ⟨c0, c1, c2, c3⟩ := DdAt.keeps w wi b _ _ HB.out hbl hc
        have hf := HFA.out i _ hx
        generalize l[i] = x at c0 c1 c2 c3 hf
        obtain ⟨xw, xi, xt, xh⟩ := x
        unfold DdG at hf
        simp only at c0 c1 c2 c3 hf
        have HF := Lib.hid hf
        obtain ⟨As, caps, hv5⟩ := HO.out.slice
        subst hv5
        have wi1 : IntKind.i64.wrap ((i : Int) + 1) = (i : Int) + 1 := by rw [IntKind.wrap_i64]; omega
        have HS50 : Hid (S.length ≤ 50) := Lib.hid HS.out.few
        have hbox := below_box wi (.cells #[.int .i64 xw, .int .i64 xi, .int .i64 xt, .int .i64 xh] 28)
        obtain ⟨bx, hbx⟩ : ∃ bx, bx = wi.heap.size := ⟨_, rfl⟩
        have HBX : Hid (Blk (wi.alloc (.cells #[.int .i64 xw, .int .i64 xi, .int .i64 xt, .int .i64 xh] 28)) bx 28 #[.int .i64 xw, .int .i64 xi, .int .i64 xt, .int .i64 xh]) := Lib.hid (by rw [hbx]; exact Blk.new _ _ _)
        have HNX : Hid (¬ Own g m vs bx) := Lib.hid fun hc => by
          have := (HV.out.own_lt bx hc).2
          omega
        have HV1 := Lib.hid (HV.out.below hbox)
        have HO1 := Lib.hid (HO.out.below hbox)
        have HB1 := Lib.hid (HB.out.trans (hbox.mono HB.out.size))
        have HT1 := Lib.hid HO.out.tms
        clear hx hc hf hbox hbl HV HO HB
        go_wp2_with fail
        rw [← hbx]
        obtain ⟨w0, hw0⟩ : ∃ W : World, W = wi.alloc (.cells #[.int .i64 xw, .int .i64 xi, .int .i64 xt, .int .i64 xh] 28) := ⟨_, rfl⟩
        rw [← hw0]
        rw [← hw0] at HBX HV1 HO1 HB1
        have HT0 : Hid (TmsAt w0 (.slice As S.length caps) S) := Lib.hid HO1.out.tms
        obtain ⟨⟨x0, x1, x2, x3⟩, -⟩ : (w0.cell? ⟨bx, 0, none⟩ = some (.int .i64 xw) ∧ w0.cell? ⟨bx, 1, none⟩ = some (.int .i64 xi) ∧ w0.cell? ⟨bx, 2, none⟩ = some (.int .i64 xt) ∧ w0.cell? ⟨bx, 3, none⟩ = some (.int .i64 xh)) ∧ True := ⟨⟨HBX.out.cell 0, HBX.out.cell 1, HBX.out.cell 2, HBX.out.cell 3⟩, trivial⟩
        clear hw0 hbx c0 c1 c2 c3 HT1
        go_loopg [10, 9] S.length (fun ky s10 s9 wr => ∃ (k q : Nat) (at_ : Int), s10 = .int .i64 (k : Int) ∧ s9 = .int .i64 at_ ∧ wr = w0.drewN q ∧ k ≤ S.length ∧ S.length - k ≤ ky ∧ Hid ((at_ = -1 ∧ ∀ j, j < k → ∀ hj : j < S.length, S[j].id ≠ xi) ∨ ∃ a : Nat, at_ = (a : Int) ∧ ∃ ha : a < S.length, S[a].id = xi))
        case atStart => exact ⟨0, 0, -1, rfl, rfl, rfl, Nat.zero_le _, by omega, Lib.hid (.inl ⟨rfl, fun j hj => absurd hj (Nat.not_lt_zero _)⟩)⟩
        case round =>
          obtain ⟨k, q, at_, hs10, hs9, hwr, hk, hky, HAT⟩ := hrel
          subst hs10
          subst hs9
          subst hwr
          by_cases hkl : k < S.length
          · have hklz : (k : Int) < (S.length : Int) := by omega
            have hx := List.getElem?_eq_getElem hkl
            obtain ⟨A0, cap0, hsl, hcap, hcells⟩ := HT0.out
            injection hsl with hs1 hs2 hs3
            subst hs1; subst hs3
            obtain ⟨b2, o2, rfl, hbl2, ⟨d0, d1, d2⟩⟩ := hcells k _ hx
            have HXK : Hid (S[k].id = S[k].id) := Lib.hid rfl
            have hdq := d0
            obtain ⟨t0, HT00⟩ : ∃ t0, Hid (t0 = S[k].id) := ⟨_, Lib.hid rfl⟩
            rw [← HT00.out] at d0
            have wk1 : IntKind.i64.wrap ((k : Int) + 1) = (k : Int) + 1 := by have := HS50.out; rw [IntKind.wrap_i64]; omega
            clear hx hcells hs2 hcap hbl2 d1 d2 hdq
            by_cases he : t0 = xi
            · have heb : (t0 == xi) = true := by rw [he]; simp
              have HAT2 : Hid (S[k].id = xi) := Lib.hid (by rw [← HT00.out]; exact he)
              clear he
              go_wp2_with fail
              go_quiet (fail)
              go_wp2_with fail
              go_roundg (S.length - (k + 1))
              case measure => omega
              case rel => exact ⟨k + 1, q + nq, (k : Int), by go_num, rfl, rfl, by omega, by omega, Lib.hid (.inr ⟨k, rfl, hkl, HAT2.out⟩)⟩
            · have heb : (t0 == xi) = false := beq_false_of_ne he
              have HAT2 : Hid (S[k].id ≠ xi) := Lib.hid (by rw [← HT00.out]; exact he)
              clear he
              go_wp2_with fail
              go_quiet (fail)
              go_wp2_with fail
              go_roundg (S.length - (k + 1))
              case measure => omega
              case rel => exact ⟨k + 1, q + nq, at_, by go_num, rfl, rfl, by omega, by omega, Lib.hid (by
                rcases HAT.out with ⟨h1, h2⟩ | h
                · exact .inl ⟨h1, fun j hj hjl => by
                    by_cases e : j = k
                    · subst e; exact HAT2.out
                    · exact h2 j (by omega) hjl⟩
                · exact .inr h)⟩
          · have hklz : ¬ (k : Int) < (S.length : Int) := by omega
            have hks : k = S.length := by omega
            have HATN : Hid ((at_ = -1 ∧ hasId S xi = false) ∨ ∃ a : Nat, at_ = (a : Int) ∧ ∃ ha : a < S.length, S[a].id = xi) := Lib.hid (by
              rcases HAT.out with ⟨h1, h2⟩ | h
              · refine .inl ⟨h1, ?_⟩
                unfold hasId
                rw [List.any_eq_false]
                intro t ht
                obtain ⟨j, hj, rfl⟩ := List.getElem_of_mem ht
                simpa using h2 j (by omega) hj
              · exact .inr h)
            have hbq : Below w0.heap.size w0 (w0.drewN q) := below_drewN (Below.refl _ _) q
            have HV2 := Lib.hid (HV1.out.below hbq)
            have HO2 := Lib.hid (HO1.out.below hbq)
            have HB2 := Lib.hid (HB1.out.trans (hbq.mono HB1.out.size))
            have HBX2 := Lib.hid (HBX.out.below hbq HBX.out.lt)
            obtain ⟨⟨y0, y1, y2, y3⟩, -⟩ : ((w0.drewN q).cell? ⟨bx, 0, none⟩ = some (.int .i64 xw) ∧ (w0.drewN q).cell? ⟨bx, 1, none⟩ = some (.int .i64 xi) ∧ (w0.drewN q).cell? ⟨bx, 2, none⟩ = some (.int .i64 xt) ∧ (w0.drewN q).cell? ⟨bx, 3, none⟩ = some (.int .i64 xh)) ∧ True := ⟨⟨HBX2.out.cell 0, HBX2.out.cell 1, HBX2.out.cell 2, HBX2.out.cell 3⟩, trivial⟩
            have HP := Lib.hid (pick_any xw 3 (w0.drewN q) HF.out.1 (by omega) (by omega))
            have hp3 := pickF3 xw
            generalize pickF xw 3 = P at HP hp3
            clear hbq HAT x0 x1 x2 x3 HT0 HV1 HO1 HB1 HBX hks hk hky
            generalize w0.drewN q = wq at *
            go_wp2_with fail
            refine HP.out.mono ?_
            rintro e w4 ⟨rfl, rfl⟩
            rcases hp3 with rfl | rfl | rfl
            · as_aux_lemma =>
                skip
                rcases HATN.out with ⟨hat, hno⟩ | ⟨a, hat, haS, hid⟩
                · subst hat
                  have HNO := Lib.hid hno
                  have hge : ¬ (0 : Int) ≤ -1 := by omega
                  clear hno
                  by_cases harg : xt ≤ now ∨ 1073741824 < xt
                  · have HC := Lib.hid (set_arg w.heap.size g m vs now xi xt xh S w4 HV2.out HF.out.2.1 HNO.out harg)
                    have HVn := HV2
                    have HSn := HS
                    have HOn := HO2
                    have HONn := HON
                    have HBn := HB2
                    by_cases ha1 : xt ≤ now
                    · clear harg
                      go_wp2_with fail
                      refine HC.out.mono ?_
                      rintro e w5 ⟨rfl, rfl⟩
                      have HNW := Lib.hid (now_any w.heap.size g m vs now _ w5 HVn.out)
                      have HLN := Lib.hid (len_any w.heap.size g m vs now _ w5 HVn.out)
                      go_wp2_with (first | (go_at_call 11; refine HNW.out.mono ?_; rintro e w20 ⟨rfl, rfl⟩) | (go_at_call 12; refine HLN.out.mono ?_; rintro e w20 ⟨rfl, rfl⟩) | fail)
                      go_roundg (l.length - (i + 1))
                      case measure => omega
                      case rel => exact ⟨i + 1, now, vs, _, by go_num, rfl, by omega, by omega, HVn, HSn, HOn, HONn, HBn⟩
                    · have ha2 : 1073741824 < xt := by omega
                      clear harg
                      go_wp2_with fail
                      refine HC.out.mono ?_
                      rintro e w5 ⟨rfl, rfl⟩
                      have HNW := Lib.hid (now_any w.heap.size g m vs now _ w5 HVn.out)
                      have HLN := Lib.hid (len_any w.heap.size g m vs now _ w5 HVn.out)
                      go_wp2_with (first | (go_at_call 11; refine HNW.out.mono ?_; rintro e w20 ⟨rfl, rfl⟩) | (go_at_call 12; refine HLN.out.mono ?_; rintro e w20 ⟨rfl, rfl⟩) | fail)
                      go_roundg (l.length - (i + 1))
                      case measure => omega
                      case rel => exact ⟨i + 1, now, vs, _, by go_num, rfl, by omega, by omega, HVn, HSn, HOn, HONn, HBn⟩
                  · have ha1 : ¬ xt ≤ now := by omega
                    have ha2 : ¬ 1073741824 < xt := by omega
                    by_cases hf50 : S.length = 50
                    · have HC := Lib.hid (set_full w.heap.size g m vs now xi xt xh S w4 HV2.out HF.out.2.1 HNO.out ha1 ha2 hf50)
                      have hfz : (50 : Int) ≤ (S.length : Int) := by omega
                      have HVn := HV2
                      have HSn := HS
                      have HOn := HO2
                      have HONn := HON
                      have HBn := HB2
                      clear harg hf50
                      go_wp2_with fail
                      refine HC.out.mono ?_
                      rintro e w5 ⟨rfl, rfl⟩
                      have HNW := Lib.hid (now_any w.heap.size g m vs now _ w5 HVn.out)
                      have HLN := Lib.hid (len_any w.heap.size g m vs now _ w5 HVn.out)
                      go_wp2_with (first | (go_at_call 11; refine HNW.out.mono ?_; rintro e w20 ⟨rfl, rfl⟩) | (go_at_call 12; refine HLN.out.mono ?_; rintro e w20 ⟨rfl, rfl⟩) | fail)
                      go_roundg (l.length - (i + 1))
                      case measure => omega
                      case rel => exact ⟨i + 1, now, vs, _, by go_num, rfl, by omega, by omega, HVn, HSn, HOn, HONn, HBn⟩
                    · have hf50' : S.length < 50 := by have := HS50.out; omega
                      have HC := Lib.hid (set_ok w.heap.size g m vs now xi xt xh S w4 HV2.out HF.out.2.1 HNO.out HS.out.now0 ha1 ha2 hf50')
                      have hfz : ¬ (50 : Int) ≤ (S.length : Int) := by omega
                      have HSn := Lib.hid (HS.out.snoc (t := ⟨xi, xt, xh⟩) HNO.out ha1 ha2 HF.out.2.1 hf50')
                      clear harg hf50
                      go_wp2_with fail
                      refine HC.out.mono ?_
                      rintro e w5 ⟨rfl, v5, hk5, hw5, ho5⟩
                      have HVn := Lib.hid hw5
                      have HBn5 := Lib.hid (below_kb HB2.out hk5 (fun b hb => (HV2.out.own_lt b hb).1))
                      have HO5 : Hid (OwnT w5 w.heap.size (.slice As S.length caps) S) := Lib.hid (own_kb HO2.out hk5 (fun b hb hc => HON.out b hc hb))
                      have HBX5 := Lib.hid (HBX2.out.kb hk5 HNX.out)
                      have HON5 : Hid (∀ b, Own g m v5 b → (Value.slice As S.length caps).ownBlock ≠ some b) := Lib.hid fun b hb hc => by
                        rcases ho5 b hb with h1 | h1
                        · exact HON.out b h1 hc
                        · have := (HO2.out.lt b hc).2
                          omega
                      have HRI := Lib.hid (rowIs_tms HO5.out.tms)
                      have z1 := HBX5.out.cell 1
                      have z2 := HBX5.out.cell 2
                      have z3 := HBX5.out.cell 3
                      simp only [List.getElem?_toArray, List.getElem?_cons_zero, List.getElem?_cons_succ] at z1 z2 z3
                      have HSL : Hid (S.length < 50) := Lib.hid hf50'
                      have mixed : Try.prog.follows .mixedOrders = true := by kernel_rfl
                      clear hk5 hw5 ho5 y0 y1 y2 y3
                      go_wp2_with fail
                      obtain ⟨wd, hwd⟩ : ∃ W : World, W = w5.drew := ⟨_, rfl⟩
                      have HW5B : Hid (Below w5.heap.size w5 wd) := Lib.hid (by rw [hwd]; exact below_drewN (Below.refl _ _) 1)
                      have HRD : Hid (RowIs wd 3 (.slice As S.length caps) S.length (rowT S)) := Lib.hid (rowIs_tms (HO5.out.below HW5B.out).tms)
                      have HBXD := Lib.hid (HBX5.out.below HW5B.out HBX5.out.lt)
                      have HSZ : Hid (wd.heap.size = w5.heap.size) := Lib.hid (by rw [hwd]; rfl)
                      have HSS : Hid (∀ W, Below wd.heap.size wd W → W.cell? ⟨bx, 1, none⟩ = some (.int .i64 xi) ∧ W.cell? ⟨bx, 2, none⟩ = some (.int .i64 xt) ∧ W.cell? ⟨bx, 3, none⟩ = some (.int .i64 xh)) := Lib.hid fun W hW => by
                        have h := HBXD.out.below hW HBXD.out.lt
                        exact ⟨h.cell 1, h.cell 2, h.cell 3⟩
                      refine anyD_start (fun W => W.cell? ⟨bx, 1, none⟩ = some (.int .i64 xi) ∧ W.cell? ⟨bx, 2, none⟩ = some (.int .i64 xt) ∧ W.cell? ⟨bx, 3, none⟩ = some (.int .i64 xh)) (fun i => [].contains i) (by kernel_rfl) ?_
                      rw [← hwd]
                      obtain ⟨z1, z2, z3⟩ := HSS.out wd (Below.refl _ _)
                      clear hwd mixed
                      refine anyD_take (i := 1) (v := .slice As S.length caps) rfl (by kernel_rfl) (by kernel_rfl) (by kernel_rfl) (fun _ _ _ h => h) (Or.inl ⟨by kernel_rfl, fun w => by go_simp⟩) ?_
                      try simp only [Act.put, List.setIfInBounds_toArray, List.set_cons_zero, List.set_cons_succ, List.getElem_toArray, List.getElem_cons_zero, List.getElem_cons_succ]
                      refine anyD_take (i := 3) (v := .pointer (some ⟨bx, 1, none⟩)) rfl (by kernel_rfl) (by kernel_rfl) (by kernel_rfl) (fun _ _ _ h => h) (Or.inl ⟨by kernel_rfl, fun w => by go_simp⟩) ?_
                      try simp only [Act.put, List.setIfInBounds_toArray, List.set_cons_zero, List.set_cons_succ, List.getElem_toArray, List.getElem_cons_zero, List.getElem_cons_succ]
                      refine anyD_load (i := 4) (v := .int .i64 xi) rfl (by kernel_rfl) (by kernel_rfl) (by kernel_rfl) (by kernel_rfl) (fun _ _ _ h => h) (Or.inl ⟨by kernel_rfl, fun w hS => by obtain ⟨s0, s1, s2⟩ := hS; go_simp⟩) (⟨z1, z2, z3⟩) ?_
                      try simp only [Act.put, List.setIfInBounds_toArray, List.set_cons_zero, List.set_cons_succ, List.getElem_toArray, List.getElem_cons_zero, List.getElem_cons_succ]
                      refine anyD_take (i := 5) (v := .pointer (some ⟨bx, 2, none⟩)) rfl (by kernel_rfl) (by kernel_rfl) (by kernel_rfl) (fun _ _ _ h => h) (Or.inl ⟨by kernel_rfl, fun w => by go_simp⟩) ?_
                      try simp only [Act.put, List.setIfInBounds_toArray, List.set_cons_zero, List.set_cons_succ, List.getElem_toArray, List.getElem_cons_zero, List.getElem_cons_succ]
                      refine anyD_load (i := 6) (v := .int .i64 xt) rfl (by kernel_rfl) (by kernel_rfl) (by kernel_rfl) (by kernel_rfl) (fun _ _ _ h => h) (Or.inl ⟨by kernel_rfl, fun w hS => by obtain ⟨s0, s1, s2⟩ := hS; go_simp⟩) (⟨z1, z2, z3⟩) ?_
                      try simp only [Act.put, List.setIfInBounds_toArray, List.set_cons_zero, List.set_cons_succ, List.getElem_toArray, List.getElem_cons_zero, List.getElem_cons_succ]
                      refine anyD_take (i := 7) (v := .pointer (some ⟨bx, 3, none⟩)) rfl (by kernel_rfl) (by kernel_rfl) (by kernel_rfl) (fun _ _ _ h => h) (Or.inl ⟨by kernel_rfl, fun w => by go_simp⟩) ?_
                      try simp only [Act.put, List.setIfInBounds_toArray, List.set_cons_zero, List.set_cons_succ, List.getElem_toArray, List.getElem_cons_zero, List.getElem_cons_succ]
                      refine anyD_load (i := 8) (v := .int .i64 xh) rfl (by kernel_rfl) (by kernel_rfl) (by kernel_rfl) (by kernel_rfl) (fun _ _ _ h => h) (Or.inl ⟨by kernel_rfl, fun w hS => by obtain ⟨s0, s1, s2⟩ := hS; go_simp⟩) (⟨z1, z2, z3⟩) ?_
                      try simp only [Act.put, List.setIfInBounds_toArray, List.set_cons_zero, List.set_cons_succ, List.getElem_toArray, List.getElem_cons_zero, List.getElem_cons_succ]
                      refine anyD_take (i := 9) (v := .agg #[.int .i64 xi, .int .i64 xt, .int .i64 xh]) rfl (by kernel_rfl) (by kernel_rfl) (by kernel_rfl) (fun _ _ _ h => h) (Or.inl ⟨by kernel_rfl, fun w => by go_simp⟩) ?_
                      try simp only [Act.put, List.setIfInBounds_toArray, List.set_cons_zero, List.set_cons_succ, List.getElem_toArray, List.getElem_cons_zero, List.getElem_cons_succ]
                      refine anyD_two (i := 0) (j := 10) rfl rfl rfl rfl (by kernel_rfl) (fun K HK => ?orderA) (fun K HK => ?orderB)
                      case' orderA =>
                        go_simp
                        refine HK.out _ _ (fun _ hS => HSS.out _ (below_box wd _)) ?_
                        clear HK K
                        try simp only [Act.put, List.setIfInBounds_toArray, List.set_cons_zero, List.set_cons_succ, List.getElem_toArray, List.getElem_cons_zero, List.getElem_cons_succ]
                        refine anyD_two (i := 2) (j := 10) rfl rfl rfl rfl (by kernel_rfl) (fun K HK => ?orderA1) (fun K HK => ?orderA2)
                      case' orderA1 =>
                        refine wp_append_row _ _ 26 rfl wd.heap.size 30 i0 (.agg #[.int .i64 0, .int .i64 0, .int .i64 0]) 3 24 Try.underlying26 HI.out HZ0.out HZ1.out HZ2.out rfl (by decide) _ 0 [] rfl (own_zeroB wd wd.heap.size 30 3 (Nat.le_refl _)) _ S.length (rowT S) rfl HRD.out (below_box wd (.cells #[] 30)) ?c3 ?c4 ?c5 ?_
                        case c3 => have := HSL.out; unfold maxLen; omega
                        case c4 => have := HSL.out; omega
                        case c5 => exact (below_box wd (.cells #[] 30)).size
                        intro v1 w6 ho1 hg1
                        have hb6 : Below wd.heap.size wd w6 := below_grown (below_box wd (.cells #[] 30)) hg1 (fun b hb => by injection hb with hb; have hb : wd.heap.size = b := hb; omega)
                        refine HK.out _ _ (fun _ hS => HSS.out _ hb6) ?_
                        clear HK K
                        try simp only [Act.put, List.setIfInBounds_toArray, List.set_cons_zero, List.set_cons_succ, List.getElem_toArray, List.getElem_cons_zero, List.getElem_cons_succ]
                        refine anyD_one (i := 10) rfl rfl (by kernel_rfl) (fun K HK => ?_)
                        go_simp
                        have hb6' : Below wd.heap.size wd (w6.alloc (.cells #[.int .i64 xi, .int .i64 xt, .int .i64 xh] 30)) := hb6.trans ((below_box w6 _).mono hb6.size)
                        refine HK.out _ _ (fun _ hS => HSS.out _ hb6') ?_
                        clear HK K
                        try simp only [Act.put, List.setIfInBounds_toArray, List.set_cons_zero, List.set_cons_succ, List.getElem_toArray, List.getElem_cons_zero, List.getElem_cons_succ]
                        refine anyD_one (i := 11) rfl rfl (by kernel_rfl) (fun K HK => ?_)
                        have ho1' := own_below ho1 (below_box w6 (.cells #[.int .i64 xi, .int .i64 xt, .int .i64 xh] 30))
                        refine wp_append_at _ _ 26 rfl wd.heap.size 30 i0 (.agg #[.int .i64 0, .int .i64 0, .int .i64 0]) 3 24 Try.underlying26 HI.out HZ0.out HZ1.out HZ2.out rfl (by decide) _ (0 + S.length) ([] ++ rowT S) rfl (ho1') ⟨w6.heap.size, 0, none⟩ 1 1 (encT ⟨xi, xt, xh⟩) rfl rfl (tm_at (Blk.new w6 30 _)) (tm_one _) ?c3 ?c4 ?c5 ?_
                        case c3 => have := HSL.out; unfold maxLen; omega
                        case c4 => have := HSL.out; omega
                        case c5 => exact hb6'.size
                        intro v7 w7 ho7 hg7 _
                        have HO7 : Hid (OwnT w7 wd.heap.size v7 (S ++ [⟨xi, xt, xh⟩])) := Lib.hid (OwnT.snoc (by rw [Nat.zero_add, List.nil_append] at ho7; exact ho7))
                        have HB7 : Hid (Below wd.heap.size wd w7) := Lib.hid (below_grown (hb6') hg7 (fun b hb => (own_lt1 ho1' b hb)))
                        clear ho7 hg7 ho1'
                        refine HK.out _ _ (fun _ hS => HSS.out _ HB7.out) ?_
                        clear HK K
                        try simp only [Act.put, List.setIfInBounds_toArray, List.set_cons_zero, List.set_cons_succ, List.getElem_toArray, List.getElem_cons_zero, List.getElem_cons_succ]
                        clear hb6 hb6' hg1 ho1
                      case' orderA2 =>
                        go_simp
                        have hb6 : Below wd.heap.size wd ((wd.alloc (.cells #[] 30)).alloc (.cells #[.int .i64 xi, .int .i64 xt, .int .i64 xh] 30)) := (below_box wd _).trans ((below_box _ _).mono (by simp))
                        refine HK.out _ _ (fun _ hS => HSS.out _ hb6) ?_
                        clear HK K
                        try simp only [Act.put, List.setIfInBounds_toArray, List.set_cons_zero, List.set_cons_succ, List.getElem_toArray, List.getElem_cons_zero, List.getElem_cons_succ]
                        refine anyD_one (i := 2) rfl rfl (by kernel_rfl) (fun K HK => ?_)
                        refine wp_append_row _ _ 26 rfl wd.heap.size 30 i0 (.agg #[.int .i64 0, .int .i64 0, .int .i64 0]) 3 24 Try.underlying26 HI.out HZ0.out HZ1.out HZ2.out rfl (by decide) _ 0 [] rfl (own_below (own_zeroB wd wd.heap.size 30 3 (Nat.le_refl _)) (below_box _ (.cells #[.int .i64 xi, .int .i64 xt, .int .i64 xh] 30))) _ S.length (rowT S) rfl HRD.out (hb6) ?c3 ?c4 ?c5 ?_
                        case c3 => have := HSL.out; unfold maxLen; omega
                        case c4 => have := HSL.out; omega
                        case c5 => exact (hb6).size
                        intro v1 w6 ho1 hg1
                        have hbn : Blk w6 (wd.heap.size + 1) 30 #[.int .i64 xi, .int .i64 xt, .int .i64 xh] := (Blk.new_at (wd.alloc (.cells #[] 30)) 30 #[.int .i64 xi, .int .i64 xt, .int .i64 xh] (wd.heap.size + 1) (by simp)).grown hg1 (fun hc => by injection hc with hc; have hc : wd.heap.size + 1 = wd.heap.size := hc; omega)
                        have hb6' : Below wd.heap.size wd w6 := below_grown hb6 hg1 (fun b hb => by injection hb with hb; have hb : wd.heap.size = b := hb; omega)
                        refine HK.out _ _ (fun _ hS => HSS.out _ hb6') ?_
                        clear HK K
                        try simp only [Act.put, List.setIfInBounds_toArray, List.set_cons_zero, List.set_cons_succ, List.getElem_toArray, List.getElem_cons_zero, List.getElem_cons_succ]
                        refine anyD_one (i := 11) rfl rfl (by kernel_rfl) (fun K HK => ?_)
                        have ho1' := ho1
                        refine wp_append_at _ _ 26 rfl wd.heap.size 30 i0 (.agg #[.int .i64 0, .int .i64 0, .int .i64 0]) 3 24 Try.underlying26 HI.out HZ0.out HZ1.out HZ2.out rfl (by decide) _ (0 + S.length) ([] ++ rowT S) rfl (ho1') ⟨wd.heap.size + 1, 0, none⟩ 1 1 (encT ⟨xi, xt, xh⟩) rfl rfl (tm_at (hbn)) (tm_one _) ?c3 ?c4 ?c5 ?_
                        case c3 => have := HSL.out; unfold maxLen; omega
                        case c4 => have := HSL.out; omega
                        case c5 => exact hb6'.size
                        intro v7 w7 ho7 hg7 _
                        have HO7 : Hid (OwnT w7 wd.heap.size v7 (S ++ [⟨xi, xt, xh⟩])) := Lib.hid (OwnT.snoc (by rw [Nat.zero_add, List.nil_append] at ho7; exact ho7))
                        have HB7 : Hid (Below wd.heap.size wd w7) := Lib.hid (below_grown (hb6') hg7 (fun b hb => (own_lt1 ho1' b hb)))
                        clear ho7 hg7 ho1'
                        refine HK.out _ _ (fun _ hS => HSS.out _ HB7.out) ?_
                        clear HK K
                        try simp only [Act.put, List.setIfInBounds_toArray, List.set_cons_zero, List.set_cons_succ, List.getElem_toArray, List.getElem_cons_zero, List.getElem_cons_succ]
                        clear hb6 hb6' hg1 ho1 hbn
                      case' orderB =>
                        go_simp
                        refine HK.out _ _ (fun _ hS => HSS.out _ (below_box wd _)) ?_
                        clear HK K
                        try simp only [Act.put, List.setIfInBounds_toArray, List.set_cons_zero, List.set_cons_succ, List.getElem_toArray, List.getElem_cons_zero, List.getElem_cons_succ]
                        refine anyD_one (i := 0) rfl rfl (by kernel_rfl) (fun K HK => ?_)
                        go_simp
                        have hb6 : Below wd.heap.size wd ((wd.alloc (.cells #[.int .i64 xi, .int .i64 xt, .int .i64 xh] 30)).alloc (.cells #[] 30)) := (below_box wd _).trans ((below_box _ _).mono (by simp))
                        refine HK.out _ _ (fun _ hS => HSS.out _ hb6) ?_
                        clear HK K
                        try simp only [Act.put, List.setIfInBounds_toArray, List.set_cons_zero, List.set_cons_succ, List.getElem_toArray, List.getElem_cons_zero, List.getElem_cons_succ]
                        refine anyD_one (i := 2) rfl rfl (by kernel_rfl) (fun K HK => ?_)
                        have hz0 := own_zeroB (wd.alloc (.cells #[.int .i64 xi, .int .i64 xt, .int .i64 xh] 30)) wd.heap.size 30 3 (by simp)
                        rw [show (wd.alloc (.cells #[.int .i64 xi, .int .i64 xt, .int .i64 xh] 30)).heap.size = wd.heap.size + 1 by simp] at hz0
                        refine wp_append_row _ _ 26 rfl wd.heap.size 30 i0 (.agg #[.int .i64 0, .int .i64 0, .int .i64 0]) 3 24 Try.underlying26 HI.out HZ0.out HZ1.out HZ2.out rfl (by decide) _ 0 [] rfl (hz0) _ S.length (rowT S) rfl HRD.out (hb6) ?c3 ?c4 ?c5 ?_
                        case c3 => have := HSL.out; unfold maxLen; omega
                        case c4 => have := HSL.out; omega
                        case c5 => exact (hb6).size
                        intro v1 w6 ho1 hg1
                        have hbn : Blk w6 wd.heap.size 30 #[.int .i64 xi, .int .i64 xt, .int .i64 xh] := ((Blk.new wd 30 #[.int .i64 xi, .int .i64 xt, .int .i64 xh]).below (below_box _ (.cells #[] 30)) (by simp)).grown hg1 (fun hc => by injection hc with hc; have hc : wd.heap.size + 1 = wd.heap.size := hc.symm; omega)
                        have hb6' : Below wd.heap.size wd w6 := below_grown hb6 hg1 (fun b hb => by injection hb with hb; have hb : wd.heap.size + 1 = b := hb; omega)
                        refine HK.out _ _ (fun _ hS => HSS.out _ hb6') ?_
                        clear HK K
                        try simp only [Act.put, List.setIfInBounds_toArray, List.set_cons_zero, List.set_cons_succ, List.getElem_toArray, List.getElem_cons_zero, List.getElem_cons_succ]
                        refine anyD_one (i := 11) rfl rfl (by kernel_rfl) (fun K HK => ?_)
                        have ho1' := ho1
                        refine wp_append_at _ _ 26 rfl wd.heap.size 30 i0 (.agg #[.int .i64 0, .int .i64 0, .int .i64 0]) 3 24 Try.underlying26 HI.out HZ0.out HZ1.out HZ2.out rfl (by decide) _ (0 + S.length) ([] ++ rowT S) rfl (ho1') ⟨wd.heap.size, 0, none⟩ 1 1 (encT ⟨xi, xt, xh⟩) rfl rfl (tm_at (hbn)) (tm_one _) ?c3 ?c4 ?c5 ?_
                        case c3 => have := HSL.out; unfold maxLen; omega
                        case c4 => have := HSL.out; omega
                        case c5 => exact hb6'.size
                        intro v7 w7 ho7 hg7 _
                        have HO7 : Hid (OwnT w7 wd.heap.size v7 (S ++ [⟨xi, xt, xh⟩])) := Lib.hid (OwnT.snoc (by rw [Nat.zero_add, List.nil_append] at ho7; exact ho7))
                        have HB7 : Hid (Below wd.heap.size wd w7) := Lib.hid (below_grown (hb6') hg7 (fun b hb => (own_lt1 ho1' b hb)))
                        clear ho7 hg7 ho1'
                        refine HK.out _ _ (fun _ hS => HSS.out _ HB7.out) ?_
                        clear HK K
                        try simp only [Act.put, List.setIfInBounds_toArray, List.set_cons_zero, List.set_cons_succ, List.getElem_toArray, List.getElem_cons_zero, List.getElem_cons_succ]
                        clear hb6 hb6' hg1 ho1 hbn hz0
                      all_goals (
                        obtain ⟨g7, cap7, hv7⟩ : ∃ g7 cap7, v7 = .slice (some ⟨g7, 0, none⟩) (S.length + 1) cap7 := by
                          have h := HO7.out
                          unfold OwnT at h
                          rw [List.length_append] at h
                          exact slice_of_own h
                        subst hv7
                        have HVm := HVn
                        have hb57 : Below w5.heap.size w5 w7 := HW5B.out.trans (HB7.out.mono (by rw [HSZ.out]; exact Nat.le_refl _))
                        have HVn : Hid (WhAt w.heap.size w7 g m v5 now (S ++ [⟨xi, xt, xh⟩])) := Lib.hid (HVm.out.below hb57)
                        have HOn : Hid (OwnT w7 w.heap.size _ (S ++ [⟨xi, xt, xh⟩])) := Lib.hid (HO7.out.base (by rw [HSZ.out]; exact HBn5.out.size))
                        have HONn : Hid (∀ b, Own g m v5 b → (Value.slice (some ⟨g7, 0, none⟩) (S.length + 1) cap7).ownBlock ≠ some b) := Lib.hid fun b hb hc => by
                          have h1 := (HO7.out.lt b hc).1
                          have h2 := (HVm.out.own_lt b hb).2
                          have := HSZ.out
                          omega
                        have HBn := Lib.hid (HBn5.out.trans (hb57.mono HBn5.out.size))
                        have hln : ((S ++ [(⟨xi, xt, xh⟩ : Tm)]).length : Int) = (S.length : Int) + 1 := by simp
                        clear hb57 HVm HO7 HB7 HSS HBXD HRD HSZ HW5B HBn5 HBX5 HRI HON5 HO5
                        refine anyD_take (i := 12) (v := .slice (some ⟨g7, 0, none⟩) (S.length + 1) cap7) rfl (by kernel_rfl) (by kernel_rfl) (by kernel_rfl) (fun _ _ _ h => h) (Or.inl ⟨by kernel_rfl, fun w => by go_simp⟩) ?_
                        try simp only [Act.put, List.setIfInBounds_toArray, List.set_cons_zero, List.set_cons_succ, List.getElem_toArray, List.getElem_cons_zero, List.getElem_cons_succ]
                        refine anyD_done (by kernel_rfl) ?_
                        have HNW := Lib.hid (now_any w.heap.size g m v5 now _ w7 HVn.out)
                        have HLN := Lib.hid (len_any w.heap.size g m v5 now _ w7 HVn.out)
                        go_wp2_with (first | (go_at_call 11; refine HNW.out.mono ?_; rintro e w20 ⟨rfl, rfl⟩) | (go_at_call 12; refine HLN.out.mono ?_; rintro e w20 ⟨rfl, rfl⟩) | fail)
                        go_roundg (l.length - (i + 1))
                        case measure => omega
                        case rel => exact ⟨i + 1, now, v5, _, by go_num, rfl, by omega, by omega, HVn, HSn, HOn, HONn, HBn⟩)
                · subst hat
                  have hge : (0 : Int) ≤ (a : Int) := by omega
                  have HC := Lib.hid (set_twice w.heap.size g m vs now xi xt xh S w4 HV2.out HF.out.2.1 (by rw [← hid]; exact has_at haS))
                  have HVn := HV2
                  have HSn := HS
                  have HOn := HO2
                  have HONn := HON
                  have HBn := HB2
                  clear hid haS
                  go_wp2_with fail
                  refine HC.out.mono ?_
                  rintro e w5 ⟨rfl, rfl⟩
                  have HNW := Lib.hid (now_any w.heap.size g m vs now _ w5 HVn.out)
                  have HLN := Lib.hid (len_any w.heap.size g m vs now _ w5 HVn.out)
                  go_wp2_with (first | (go_at_call 11; refine HNW.out.mono ?_; rintro e w20 ⟨rfl, rfl⟩) | (go_at_call 12; refine HLN.out.mono ?_; rintro e w20 ⟨rfl, rfl⟩) | fail)
                  go_roundg (l.length - (i + 1))
                  case measure => omega
                  case rel => exact ⟨i + 1, now, vs, _, by go_num, rfl, by omega, by omega, HVn, HSn, HOn, HONn, HBn⟩
            · as_aux_lemma =>
                skip
                rcases HATN.out with ⟨hat, hno⟩ | ⟨a, hat, haS, hid⟩
                · subst hat
                  have hge : ¬ (0 : Int) ≤ -1 := by omega
                  have HC := Lib.hid (can_none w.heap.size g m vs now xi S w4 HV2.out HF.out.2.1 hno)
                  unfold CanPost at HC
                  rw [drop_none hno, hno] at HC
                  have HSn := HS
                  clear hno
                  go_wp2_with fail
                  refine HC.out.mono ?_
                  rintro e w5 ⟨rfl, v5, hk5, hw5, ho5⟩
                  have HVn := Lib.hid hw5
                  have HBn := Lib.hid (below_kb HB2.out hk5 (fun b hb => (HV2.out.own_lt b hb).1))
                  have HOn : Hid (OwnT w5 w.heap.size (.slice As S.length caps) S) := Lib.hid (own_kb HO2.out hk5 (fun b hb hc => HON.out b hc hb))
                  have HONn : Hid (∀ b, Own g m v5 b → (Value.slice As S.length caps).ownBlock ≠ some b) := Lib.hid fun b hb hc => HON.out b (ho5 b hb) hc
                  clear hk5 hw5 ho5 y0 y1 y2 y3
                  have HNW := Lib.hid (now_any w.heap.size g m v5 now _ w5 HVn.out)
                  have HLN := Lib.hid (len_any w.heap.size g m v5 now _ w5 HVn.out)
                  go_wp2_with (first | (go_at_call 11; refine HNW.out.mono ?_; rintro e w20 ⟨rfl, rfl⟩) | (go_at_call 12; refine HLN.out.mono ?_; rintro e w20 ⟨rfl, rfl⟩) | fail)
                  go_roundg (l.length - (i + 1))
                  case measure => omega
                  case rel => exact ⟨i + 1, now, v5, _, by go_num, rfl, by omega, by omega, HVn, HSn, HOn, HONn, HBn⟩
                · subst hat
                  have hge : (0 : Int) ≤ (a : Int) := by omega
                  have hhas : hasId S xi = true := by rw [← hid]; exact has_at haS
                  have HC := Lib.hid (can_one w.heap.size g m vs now xi S w4 HV2.out HS.out HF.out.2.1 hhas)
                  unfold CanPost at HC
                  rw [hhas] at HC
                  have HDR := Lib.hid (drop_at HS.out.nodup haS)
                  rw [hid] at HDR
                  have HSn := Lib.hid (HS.out.sub fun t => !decide (t.id = xi))
                  have HAS := Lib.hid haS
                  have hazS : (a : Int) < (S.length : Int) := by omega
                  clear hhas hid
                  go_wp2_with fail
                  refine HC.out.mono ?_
                  rintro e w5 ⟨rfl, v5, hk5, hw5, ho5⟩
                  have HV5 := Lib.hid hw5
                  have HBn5 := Lib.hid (below_kb HB2.out hk5 (fun b hb => (HV2.out.own_lt b hb).1))
                  have HO5 : Hid (OwnT w5 w.heap.size (.slice As S.length caps) S) := Lib.hid (own_kb HO2.out hk5 (fun b hb hc => HON.out b hc hb))
                  have HON5 : Hid (∀ b, Own g m v5 b → (Value.slice As S.length caps).ownBlock ≠ some b) := Lib.hid fun b hb hc => HON.out b (ho5 b hb) hc
                  obtain ⟨n1', hn1'⟩ : ∃ n, S.length = n + 1 := ⟨S.length - 1, by omega⟩
                  obtain ⟨g5, cap5, hAs⟩ : ∃ g5 cap5, Value.slice As S.length caps = .slice (some ⟨g5, 0, none⟩) S.length cap5 := by
                    have h := HO5.out
                    unfold OwnT at h
                    rw [hn1'] at h
                    obtain ⟨g5, c5, h5⟩ := slice_of_own h
                    exact ⟨g5, c5, by rw [hn1']; exact h5⟩
                  injection hAs with hA1 _ hA2
                  subst hA1; subst hA2
                  have HT5 := Lib.hid HO5.out.tms
                  have HCAP : Hid (S.length ≤ caps) := Lib.hid (by obtain ⟨_, _, h1, h2, _⟩ := HT5.out; injection h1 with _ _ h3; rw [h3]; exact h2)
                  have hcapz : (S.length : Int) ≤ (caps : Int) := by have := HCAP.out; omega
                  have haz1 : (a : Int) ≤ (caps : Int) := by omega
                  have haz2 : (a : Int) + 1 ≤ (S.length : Int) := by omega
                  have haz3 : (0 : Int) ≤ (a : Int) + 1 := by omega
                  have wa1 : IntKind.i64.wrap ((a : Int) + 1) = (a : Int) + 1 := by have := HS50.out; rw [IntKind.wrap_i64]; omega
                  have mixed : Try.prog.follows .mixedOrders = true := by kernel_rfl
                  clear hk5 hw5 ho5 y0 y1 y2 y3 hn1'
                  go_wp2_with fail
                  obtain ⟨wd, hwd⟩ : ∃ W : World, W = w5.drew := ⟨_, rfl⟩
                  have HW5B : Hid (Below w5.heap.size w5 wd) := Lib.hid (by rw [hwd]; exact below_drewN (Below.refl _ _) 1)
                  have HTD := Lib.hid (HO5.out.below HW5B.out).tms
                  have HSZ : Hid (wd.heap.size = w5.heap.size) := Lib.hid (by rw [hwd]; rfl)
                  have HR1 := Lib.hid (rowIs_tms (tms_take HTD.out (show a ≤ S.length by omega)))
                  rw [List.length_take, Nat.min_eq_left (by omega)] at HR1
                  by_cases hce : caps = a + 1
                  · skip
                    subst hce
                    have hnl : ¬ (a : Int) + 1 < (a : Int) := by omega
                    have HR2 := Lib.hid (rowIs_tms (tms_drop (k := a + 1) (o' := 0) HTD.out (by omega) (.inl (by omega))))
                    rw [List.length_drop, Nat.sub_self] at HR2
                    refine anyD_start (fun _ => True) (fun i => [].contains i) (by kernel_rfl) ?_
                    rw [← hwd]
                    clear hwd mixed
                    refine anyD_take (i := 1) (v := .slice (some ⟨g5, 0, none⟩) S.length (a + 1)) rfl (by kernel_rfl) (by kernel_rfl) (by kernel_rfl) (fun _ _ _ h => h) (Or.inl ⟨by kernel_rfl, fun w => by go_simp⟩) ?_
                    try simp only [Act.put, List.setIfInBounds_toArray, List.set_cons_zero, List.set_cons_succ, List.getElem_toArray, List.getElem_cons_zero, List.getElem_cons_succ]
                    refine anyD_take (i := 2) (v := .int .i64 (a : Int)) rfl (by kernel_rfl) (by kernel_rfl) (by kernel_rfl) (fun _ _ _ h => h) (Or.inl ⟨by kernel_rfl, fun w => by go_simp⟩) ?_
                    try simp only [Act.put, List.setIfInBounds_toArray, List.set_cons_zero, List.set_cons_succ, List.getElem_toArray, List.getElem_cons_zero, List.getElem_cons_succ]
                    refine anyD_take (i := 3) (v := .slice (some ⟨g5, 0, none⟩) a (a + 1)) rfl (by kernel_rfl) (by kernel_rfl) (by kernel_rfl) (fun _ _ _ h => h) (Or.inl ⟨by kernel_rfl, fun w => by go_simp⟩) ?_
                    try simp only [Act.put, List.setIfInBounds_toArray, List.set_cons_zero, List.set_cons_succ, List.getElem_toArray, List.getElem_cons_zero, List.getElem_cons_succ]
                    refine anyD_take (i := 5) (v := .slice (some ⟨g5, 0, none⟩) S.length (a + 1)) rfl (by kernel_rfl) (by kernel_rfl) (by kernel_rfl) (fun _ _ _ h => h) (Or.inl ⟨by kernel_rfl, fun w => by go_simp⟩) ?_
                    try simp only [Act.put, List.setIfInBounds_toArray, List.set_cons_zero, List.set_cons_succ, List.getElem_toArray, List.getElem_cons_zero, List.getElem_cons_succ]
                    refine anyD_take (i := 6) (v := .int .i64 (a : Int)) rfl (by kernel_rfl) (by kernel_rfl) (by kernel_rfl) (fun _ _ _ h => h) (Or.inl ⟨by kernel_rfl, fun w => by go_simp⟩) ?_
                    try simp only [Act.put, List.setIfInBounds_toArray, List.set_cons_zero, List.set_cons_succ, List.getElem_toArray, List.getElem_cons_zero, List.getElem_cons_succ]
                    refine anyD_take (i := 7) (v := .int .i64 ((a : Int) + 1)) rfl (by kernel_rfl) (by kernel_rfl) (by kernel_rfl) (fun _ _ _ h => h) (Or.inl ⟨by kernel_rfl, fun w => by go_simp⟩) ?_
                    try simp only [Act.put, List.setIfInBounds_toArray, List.set_cons_zero, List.set_cons_succ, List.getElem_toArray, List.getElem_cons_zero, List.getElem_cons_succ]
                    refine anyD_take (i := 8) (v := .slice (some ⟨g5, 0, none⟩) (S.length - (a + 1)) 0) rfl (by kernel_rfl) (by kernel_rfl) (by kernel_rfl) (fun _ _ _ h => h) (Or.inl ⟨by kernel_rfl, fun w => by go_simp⟩) ?_
                    try simp only [Act.put, List.setIfInBounds_toArray, List.set_cons_zero, List.set_cons_succ, List.getElem_toArray, List.getElem_cons_zero, List.getElem_cons_succ]
                    refine anyD_one (i := 0) rfl rfl (by kernel_rfl) (fun K HK => ?_)
                    go_simp
                    refine HK.out _ _ (fun _ hS => trivial) ?_
                    clear HK K
                    try simp only [Act.put, List.setIfInBounds_toArray, List.set_cons_zero, List.set_cons_succ, List.getElem_toArray, List.getElem_cons_zero, List.getElem_cons_succ]
                    refine anyD_one (i := 4) rfl rfl (by kernel_rfl) (fun K HK => ?_)
                    refine wp_append_row _ _ 26 rfl wd.heap.size 30 i0 (.agg #[.int .i64 0, .int .i64 0, .int .i64 0]) 3 24 Try.underlying26 HI.out HZ0.out HZ1.out HZ2.out rfl (by decide) _ 0 [] rfl (own_zeroB wd wd.heap.size 30 3 (Nat.le_refl _)) _ a (rowT (S.take a)) rfl HR1.out (below_box wd (.cells #[] 30)) ?c3a ?c4a ?c5a ?_
                    case c3a => have := HS50.out; have := HAS.out; unfold maxLen; omega
                    case c4a => have := HS50.out; have := HAS.out; omega
                    case c5a => exact (below_box wd (.cells #[] 30)).size
                    intro v1 w6 ho1 hg1
                    have HB6 : Hid (Below wd.heap.size wd w6) := Lib.hid (below_grown (below_box wd (.cells #[] 30)) hg1 (fun b hb => by injection hb with hb; have hb : wd.heap.size = b := hb; omega))
                    have HO6 := Lib.hid ho1
                    clear hg1 ho1
                    refine HK.out _ _ (fun _ hS => trivial) ?_
                    clear HK K
                    try simp only [Act.put, List.setIfInBounds_toArray, List.set_cons_zero, List.set_cons_succ, List.getElem_toArray, List.getElem_cons_zero, List.getElem_cons_succ]
                    refine anyD_one (i := 9) rfl rfl (by kernel_rfl) (fun K HK => ?_)
                    refine wp_append_row _ _ 26 rfl wd.heap.size 30 i0 (.agg #[.int .i64 0, .int .i64 0, .int .i64 0]) 3 24 Try.underlying26 HI.out HZ0.out HZ1.out HZ2.out rfl (by decide) _ (0 + a) ([] ++ rowT (S.take a)) rfl HO6.out _ (S.length - (a + 1)) (rowT (S.drop (a + 1))) rfl HR2.out HB6.out ?c3a ?c4a ?c5a ?_
                    case c3a => have := HS50.out; have := HAS.out; unfold maxLen; omega
                    case c4a => have := HS50.out; have := HAS.out; omega
                    case c5a => exact HB6.out.size
                    intro v7 w7 ho7 hg7
                    have HB7 : Hid (Below wd.heap.size wd w7) := Lib.hid (below_grown HB6.out hg7 (fun b hb => own_lt1 HO6.out b hb))
                    have HO7 : Hid (OwnT w7 wd.heap.size v7 (dropId S xi)) := Lib.hid (by
                      rw [← HDR.out]
                      have h : w7.ownsRow wd.heap.size 30 3 v7 ((S.take a).length + (S.drop (a + 1)).length) (rowT (S.take a) ++ rowT (S.drop (a + 1))) := by
                        rw [List.length_take, Nat.min_eq_left (by have := HAS.out; omega), List.length_drop]
                        rw [Nat.zero_add, List.nil_append] at ho7
                        exact ho7
                      exact OwnT.app h)
                    clear ho7 hg7
                    refine HK.out _ _ (fun _ hS => trivial) ?_
                    clear HK K
                    try simp only [Act.put, List.setIfInBounds_toArray, List.set_cons_zero, List.set_cons_succ, List.getElem_toArray, List.getElem_cons_zero, List.getElem_cons_succ]
                    obtain ⟨A7, cap7, hv7⟩ := HO7.out.slice
                    subst hv7
                    have hb57 : Below w5.heap.size w5 w7 := HW5B.out.trans (HB7.out.mono (by rw [HSZ.out]; exact Nat.le_refl _))
                    have HVn : Hid (WhAt w.heap.size w7 g m v5 now (dropId S xi)) := Lib.hid (HV5.out.below hb57)
                    have HOn : Hid (OwnT w7 w.heap.size _ (dropId S xi)) := Lib.hid (HO7.out.base (by rw [HSZ.out]; exact HBn5.out.size))
                    have HONn : Hid (∀ b, Own g m v5 b → (Value.slice A7 (dropId S xi).length cap7).ownBlock ≠ some b) := Lib.hid fun b hb hc => by
                      have h1 := (HO7.out.lt b hc).1
                      have h2 := (HV5.out.own_lt b hb).2
                      have := HSZ.out
                      omega
                    have HBn := Lib.hid (HBn5.out.trans (hb57.mono HBn5.out.size))
                    clear hb57 HV5 HO7 HB7 HSZ HW5B HBn5 HON5 HO5 HO6 HB6 HR1 HR2 HTD HT5
                    refine anyD_take (i := 10) (v := .slice A7 (dropId S xi).length cap7) rfl (by kernel_rfl) (by kernel_rfl) (by kernel_rfl) (fun _ _ _ h => h) (Or.inl ⟨by kernel_rfl, fun w => by go_simp⟩) ?_
                    try simp only [Act.put, List.setIfInBounds_toArray, List.set_cons_zero, List.set_cons_succ, List.getElem_toArray, List.getElem_cons_zero, List.getElem_cons_succ]
                    refine anyD_done (by kernel_rfl) ?_
                    have HNW := Lib.hid (now_any w.heap.size g m v5 now _ w7 HVn.out)
                    have HLN := Lib.hid (len_any w.heap.size g m v5 now _ w7 HVn.out)
                    go_wp2_with (first | (go_at_call 11; refine HNW.out.mono ?_; rintro e w20 ⟨rfl, rfl⟩) | (go_at_call 12; refine HLN.out.mono ?_; rintro e w20 ⟨rfl, rfl⟩) | fail)
                    go_roundg (l.length - (i + 1))
                    case measure => omega
                    case rel => exact ⟨i + 1, now, v5, _, by go_num, rfl, by omega, by omega, HVn, HSn, HOn, HONn, HBn⟩
                  · skip
                    have hcez : (a : Int) + 1 < (caps : Int) := by have := HCAP.out; omega
                    have HR2 := Lib.hid (rowIs_tms (tms_drop (k := a + 1) (o' := (a + 1) * 3) HTD.out (by omega) (.inr (by omega))))
                    rw [List.length_drop] at HR2
                    refine anyD_start (fun _ => True) (fun i => [].contains i) (by kernel_rfl) ?_
                    rw [← hwd]
                    clear hwd mixed
                    refine anyD_take (i := 1) (v := .slice (some ⟨g5, 0, none⟩) S.length caps) rfl (by kernel_rfl) (by kernel_rfl) (by kernel_rfl) (fun _ _ _ h => h) (Or.inl ⟨by kernel_rfl, fun w => by go_simp⟩) ?_
                    try simp only [Act.put, List.setIfInBounds_toArray, List.set_cons_zero, List.set_cons_succ, List.getElem_toArray, List.getElem_cons_zero, List.getElem_cons_succ]
                    refine anyD_take (i := 2) (v := .int .i64 (a : Int)) rfl (by kernel_rfl) (by kernel_rfl) (by kernel_rfl) (fun _ _ _ h => h) (Or.inl ⟨by kernel_rfl, fun w => by go_simp⟩) ?_
                    try simp only [Act.put, List.setIfInBounds_toArray, List.set_cons_zero, List.set_cons_succ, List.getElem_toArray, List.getElem_cons_zero, List.getElem_cons_succ]
                    refine anyD_take (i := 3) (v := .slice (some ⟨g5, 0, none⟩) a caps) rfl (by kernel_rfl) (by kernel_rfl) (by kernel_rfl) (fun _ _ _ h => h) (Or.inl ⟨by kernel_rfl, fun w => by go_simp⟩) ?_
                    try simp only [Act.put, List.setIfInBounds_toArray, List.set_cons_zero, List.set_cons_succ, List.getElem_toArray, List.getElem_cons_zero, List.getElem_cons_succ]
                    refine anyD_take (i := 5) (v := .slice (some ⟨g5, 0, none⟩) S.length caps) rfl (by kernel_rfl) (by kernel_rfl) (by kernel_rfl) (fun _ _ _ h => h) (Or.inl ⟨by kernel_rfl, fun w => by go_simp⟩) ?_
                    try simp only [Act.put, List.setIfInBounds_toArray, List.set_cons_zero, List.set_cons_succ, List.getElem_toArray, List.getElem_cons_zero, List.getElem_cons_succ]
                    refine anyD_take (i := 6) (v := .int .i64 (a : Int)) rfl (by kernel_rfl) (by kernel_rfl) (by kernel_rfl) (fun _ _ _ h => h) (Or.inl ⟨by kernel_rfl, fun w => by go_simp⟩) ?_
                    try simp only [Act.put, List.setIfInBounds_toArray, List.set_cons_zero, List.set_cons_succ, List.getElem_toArray, List.getElem_cons_zero, List.getElem_cons_succ]
                    refine anyD_take (i := 7) (v := .int .i64 ((a : Int) + 1)) rfl (by kernel_rfl) (by kernel_rfl) (by kernel_rfl) (fun _ _ _ h => h) (Or.inl ⟨by kernel_rfl, fun w => by go_simp⟩) ?_
                    try simp only [Act.put, List.setIfInBounds_toArray, List.set_cons_zero, List.set_cons_succ, List.getElem_toArray, List.getElem_cons_zero, List.getElem_cons_succ]
                    refine anyD_take (i := 8) (v := .slice (some ⟨g5, (a + 1) * 3, none⟩) (S.length - (a + 1)) (caps - (a + 1))) rfl (by kernel_rfl) (by kernel_rfl) (by kernel_rfl) (fun _ _ _ h => h) (Or.inl ⟨by kernel_rfl, fun w => by go_simp⟩) ?_
                    try simp only [Act.put, List.setIfInBounds_toArray, List.set_cons_zero, List.set_cons_succ, List.getElem_toArray, List.getElem_cons_zero, List.getElem_cons_succ]
                    refine anyD_one (i := 0) rfl rfl (by kernel_rfl) (fun K HK => ?_)
                    go_simp
                    refine HK.out _ _ (fun _ hS => trivial) ?_
                    clear HK K
                    try simp only [Act.put, List.setIfInBounds_toArray, List.set_cons_zero, List.set_cons_succ, List.getElem_toArray, List.getElem_cons_zero, List.getElem_cons_succ]
                    refine anyD_one (i := 4) rfl rfl (by kernel_rfl) (fun K HK => ?_)
                    refine wp_append_row _ _ 26 rfl wd.heap.size 30 i0 (.agg #[.int .i64 0, .int .i64 0, .int .i64 0]) 3 24 Try.underlying26 HI.out HZ0.out HZ1.out HZ2.out rfl (by decide) _ 0 [] rfl (own_zeroB wd wd.heap.size 30 3 (Nat.le_refl _)) _ a (rowT (S.take a)) rfl HR1.out (below_box wd (.cells #[] 30)) ?c3b ?c4b ?c5b ?_
                    case c3b => have := HS50.out; have := HAS.out; unfold maxLen; omega
                    case c4b => have := HS50.out; have := HAS.out; omega
                    case c5b => exact (below_box wd (.cells #[] 30)).size
                    intro v1 w6 ho1 hg1
                    have HB6 : Hid (Below wd.heap.size wd w6) := Lib.hid (below_grown (below_box wd (.cells #[] 30)) hg1 (fun b hb => by injection hb with hb; have hb : wd.heap.size = b := hb; omega))
                    have HO6 := Lib.hid ho1
                    clear hg1 ho1
                    refine HK.out _ _ (fun _ hS => trivial) ?_
                    clear HK K
                    try simp only [Act.put, List.setIfInBounds_toArray, List.set_cons_zero, List.set_cons_succ, List.getElem_toArray, List.getElem_cons_zero, List.getElem_cons_succ]
                    refine anyD_one (i := 9) rfl rfl (by kernel_rfl) (fun K HK => ?_)
                    refine wp_append_row _ _ 26 rfl wd.heap.size 30 i0 (.agg #[.int .i64 0, .int .i64 0, .int .i64 0]) 3 24 Try.underlying26 HI.out HZ0.out HZ1.out HZ2.out rfl (by decide) _ (0 + a) ([] ++ rowT (S.take a)) rfl HO6.out _ (S.length - (a + 1)) (rowT (S.drop (a + 1))) rfl HR2.out HB6.out ?c3b ?c4b ?c5b ?_
                    case c3b => have := HS50.out; have := HAS.out; unfold maxLen; omega
                    case c4b => have := HS50.out; have := HAS.out; omega
                    case c5b => exact HB6.out.size
                    intro v7 w7 ho7 hg7
                    have HB7 : Hid (Below wd.heap.size wd w7) := Lib.hid (below_grown HB6.out hg7 (fun b hb => own_lt1 HO6.out b hb))
                    have HO7 : Hid (OwnT w7 wd.heap.size v7 (dropId S xi)) := Lib.hid (by
                      rw [← HDR.out]
                      have h : w7.ownsRow wd.heap.size 30 3 v7 ((S.take a).length + (S.drop (a + 1)).length) (rowT (S.take a) ++ rowT (S.drop (a + 1))) := by
                        rw [List.length_take, Nat.min_eq_left (by have := HAS.out; omega), List.length_drop]
                        rw [Nat.zero_add, List.nil_append] at ho7
                        exact ho7
                      exact OwnT.app h)
                    clear ho7 hg7
                    refine HK.out _ _ (fun _ hS => trivial) ?_
                    clear HK K
                    try simp only [Act.put, List.setIfInBounds_toArray, List.set_cons_zero, List.set_cons_succ, List.getElem_toArray, List.getElem_cons_zero, List.getElem_cons_succ]
                    obtain ⟨A7, cap7, hv7⟩ := HO7.out.slice
                    subst hv7
                    have hb57 : Below w5.heap.size w5 w7 := HW5B.out.trans (HB7.out.mono (by rw [HSZ.out]; exact Nat.le_refl _))
                    have HVn : Hid (WhAt w.heap.size w7 g m v5 now (dropId S xi)) := Lib.hid (HV5.out.below hb57)
                    have HOn : Hid (OwnT w7 w.heap.size _ (dropId S xi)) := Lib.hid (HO7.out.base (by rw [HSZ.out]; exact HBn5.out.size))
                    have HONn : Hid (∀ b, Own g m v5 b → (Value.slice A7 (dropId S xi).length cap7).ownBlock ≠ some b) := Lib.hid fun b hb hc => by
                      have h1 := (HO7.out.lt b hc).1
                      have h2 := (HV5.out.own_lt b hb).2
                      have := HSZ.out
                      omega
                    have HBn := Lib.hid (HBn5.out.trans (hb57.mono HBn5.out.size))
                    clear hb57 HV5 HO7 HB7 HSZ HW5B HBn5 HON5 HO5 HO6 HB6 HR1 HR2 HTD HT5
                    refine anyD_take (i := 10) (v := .slice A7 (dropId S xi).length cap7) rfl (by kernel_rfl) (by kernel_rfl) (by kernel_rfl) (fun _ _ _ h => h) (Or.inl ⟨by kernel_rfl, fun w => by go_simp⟩) ?_
                    try simp only [Act.put, List.setIfInBounds_toArray, List.set_cons_zero, List.set_cons_succ, List.getElem_toArray, List.getElem_cons_zero, List.getElem_cons_succ]
                    refine anyD_done (by kernel_rfl) ?_
                    have HNW := Lib.hid (now_any w.heap.size g m v5 now _ w7 HVn.out)
                    have HLN := Lib.hid (len_any w.heap.size g m v5 now _ w7 HVn.out)
                    go_wp2_with (first | (go_at_call 11; refine HNW.out.mono ?_; rintro e w20 ⟨rfl, rfl⟩) | (go_at_call 12; refine HLN.out.mono ?_; rintro e w20 ⟨rfl, rfl⟩) | fail)
                    go_roundg (l.length - (i + 1))
                    case measure => omega
                    case rel => exact ⟨i + 1, now, v5, _, by go_num, rfl, by omega, by omega, HVn, HSn, HOn, HONn, HBn⟩
            · as_aux_lemma =>
                skip
                have HBX3 := HBX2
                by_cases hbad : xt < now ∨ 1073741824 < xt
                · by_cases hb1 : xt < now
                  · skip
                    have HC := Lib.hid (tick_bad w.heap.size g m vs now xt S w4 HV2.out hbad)
                    clear hbad
                    go_wp2_with fail
                    refine HC.out.mono ?_
                    rintro e w5 ⟨rfl, rfl⟩
                    go_wp2_with fail
                    go_roundg (l.length - (i + 1))
                    case measure => omega
                    case rel => exact ⟨i + 1, now, vs, S, by go_num, rfl, by omega, by omega, HV2, HS, HO2, HON, HB2⟩
                  · have hb2 : 1073741824 < xt := by omega
                    have HC := Lib.hid (tick_bad w.heap.size g m vs now xt S w4 HV2.out hbad)
                    clear hbad
                    go_wp2_with fail
                    refine HC.out.mono ?_
                    rintro e w5 ⟨rfl, rfl⟩
                    go_wp2_with fail
                    go_roundg (l.length - (i + 1))
                    case measure => omega
                    case rel => exact ⟨i + 1, now, vs, S, by go_num, rfl, by omega, by omega, HV2, HS, HO2, HON, HB2⟩
                · have hb1 : ¬ xt < now := by omega
                  have hb2 : ¬ 1073741824 < xt := by omega
                  have HC := Lib.hid (tick_ok w.heap.size g m vs now xt S w4 HV2.out HS.out hb1 hb2)
                  have HSn := Lib.hid (rest_sound HS.out (now := xt) (by omega) (by omega))
                  clear hbad
                  go_wp2_with fail
                  refine HC.out.mono ?_
                  rintro e w5 ⟨v, R, v5, rfl, hR, hown, hk5, hw5, ho5⟩
                  have HV5 := Lib.hid hw5
                  have HB5 := Lib.hid (below_kb HB2.out hk5 (fun b hb => (HV2.out.own_lt b hb).1))
                  have HO5 : Hid (OwnT w5 w.heap.size (.slice As S.length caps) S) := Lib.hid (own_kb HO2.out hk5 (fun b hb hc => HON.out b hc hb))
                  have HBX5 := Lib.hid (HBX2.out.kb hk5 HNX.out)
                  have HT5 := Lib.hid HO5.out.tms
                  have HR := Lib.hid hR
                  have HRT := Lib.hid hown.tms
                  have z2 := HBX5.out.cell 2
                  simp only [List.getElem?_toArray, List.getElem?_cons_zero, List.getElem?_cons_succ] at z2
                  obtain ⟨Al, capl, hv⟩ := hown.slice
                  subst hv
                  clear hk5 hw5 ho5 hR hown y0 y1 y2 y3
                  go_wp2_with fail
                  clear z2
                  go_loopg [16, 14, 15] S.length (fun kz s16 s14 s15 wr => ∃ (k : Nat) (D : List Tm), s16 = .int .i64 (k : Int) ∧ k ≤ S.length ∧ S.length - k ≤ kz ∧ Hid (OwnT wr w5.heap.size s14 (restF (S.take k) xt)) ∧ Hid (OwnT wr w5.heap.size s15 D) ∧ Hid (DueOf (S.take k) xt D) ∧ Hid (Below w5.heap.size w5 wr) ∧ Hid (∀ b, s14.ownBlock = some b → s15.ownBlock ≠ some b))
                  case atStart => exact ⟨0, [], rfl, Nat.zero_le _, by omega, Lib.hid (OwnT.nil _ _), Lib.hid (OwnT.nil _ _), Lib.hid ⟨fun i j _ hj => absurd hj (Nat.not_lt_zero _), fun x => rfl⟩, Lib.hid (Below.refl _ _), Lib.hid fun b hb => (by cases hb)⟩
                  case round =>
                    obtain ⟨k, D, hs16, hk, hkz, HRE, HD, HDU, HBJ, HDJ⟩ := hrel
                    subst hs16
                    obtain ⟨wj, rfl⟩ : ∃ W : World, W = wr := ⟨_, rfl⟩
                    have HD50 : Hid (D.length ≤ 50) := Lib.hid (by have h1 := due_few HDU.out; have h2 := HS50.out; rw [List.length_take] at h1; omega)
                    by_cases hkl : k < S.length
                    · have hklz : (k : Int) < (S.length : Int) := by omega
                      have hx := List.getElem?_eq_getElem hkl
                      obtain ⟨A0, cap0, hsl, hcap, hcells⟩ := HT5.out
                      injection hsl with hs1 hs2 hs3
                      subst hs1; subst hs3
                      obtain ⟨b2, o2, rfl, hbl2, hc5⟩ := hcells k _ hx
                      have HC5 : Hid (∀ W, Below w5.heap.size w5 W → TmAt W b2 (o2 + k * 3) S[k]) := Lib.hid fun W hW => TmAt.keeps w5 W b2 _ _ hW hbl2 hc5
                      have HTK1 : Hid (S.take (k + 1) = S.take k ++ [S[k]]) := Lib.hid (by rw [List.take_add_one, hx]; rfl)
                      generalize S[k] = t at HC5 HTK1
                      obtain ⟨t0, t1, t2⟩ := t
                      obtain ⟨d0, d1, d2⟩ := HC5.out wj HBJ.out
                      simp only at d0 d1 d2
                      have wk1 : IntKind.i64.wrap ((k : Int) + 1) = (k : Int) + 1 := by have := HS50.out; rw [IntKind.wrap_i64]; omega
                      clear hx hcells hs2 hcap hbl2 hc5
                      by_cases hlate : xt < t1
                      · have HRL : Hid ((restF (S.take k) xt).length ≤ 50) := Lib.hid (by
                          have h1 := List.length_filter_le (fun t => !lateB xt t) (S.take k)
                          have h2 := List.length_take_le k S
                          have h3 := HS50.out
                          unfold restF
                          omega)
                        have HBN := Lib.hid (Blk.new wj 30 #[.int .i64 t0, .int .i64 t1, .int .i64 t2])
                        have HRE2 := Lib.hid (HRE.out.below (below_box wj (.cells #[.int .i64 t0, .int .i64 t1, .int .i64 t2] 30)))
                        have HBJ2 := Lib.hid (HBJ.out.trans ((below_box wj (.cells #[.int .i64 t0, .int .i64 t1, .int .i64 t2] 30)).mono HBJ.out.size))
                        have HD2 := Lib.hid (HD.out.below (below_box wj (.cells #[.int .i64 t0, .int .i64 t1, .int .i64 t2] 30)))
                        go_wp2_with (at_builtin; refine wpList_append_own_at _ rfl _ _ 26 rfl w5.heap.size 30 i0 (.agg #[.int .i64 0, .int .i64 0, .int .i64 0]) 3 24 Try.underlying26 HI.out HZ0.out HZ1.out HZ2.out rfl (by decide) _ _ _ rfl HRE2.out ⟨wj.heap.size, 0, none⟩ 1 1 (encT ⟨t0, t1, t2⟩) rfl rfl (tm_at HBN.out) (tm_one _) ?c3r ?c4r ?c5r ?_)
                        case c3r => have := HRL.out; unfold maxLen; omega
                        case c4r => have := HRL.out; omega
                        case c5r => exact HBJ2.out.size
                        intro v' w7 hown7 hgrow7 _ hloc7
                        have HRE7 := Lib.hid (OwnT.snoc hown7)
                        have HB7 := Lib.hid (below_grown HBJ2.out hgrow7 (fun b hb => (HRE2.out.lt b hb).1))
                        have HD7 : Hid (OwnT w7 w5.heap.size u15 D) := Lib.hid (own_kb (O := fun b => u14.ownBlock = some b) HD2.out (KB.of_grown hgrow7 (fun b hb => hb)) (fun b hb hc => HDJ.out b hc hb))
                        have HDJ7 : Hid (∀ b, v'.ownBlock = some b → u15.ownBlock ≠ some b) := Lib.hid fun b hb hc => by
                          rcases hloc7 with h1 | h1
                          · exact HDJ.out b (by rw [← h1, hb]) hc
                          · rw [hb] at h1
                            injection h1 with h1
                            have := (HD.out.lt b hc).2
                            have h2 : (wj.alloc (.cells #[.int .i64 t0, .int .i64 t1, .int .i64 t2] 30)).heap.size = wj.heap.size + 1 := by simp
                            omega
                        clear hown7 hgrow7 hloc7 d0 d1 d2
                        go_wp2_with fail
                        go_roundg (S.length - (k + 1))
                        case measure => omega
                        case rel => exact ⟨k + 1, D, by go_num, by omega, by omega, Lib.hid (by rw [HTK1.out, rest_snoc, if_neg (by simp only; omega)]; exact HRE7.out), HD7, Lib.hid (by rw [HTK1.out]; exact due_pass HDU.out (by simp only; omega)), HB7, HDJ7⟩
                      · have HDUE : Hid (t1 ≤ xt) := Lib.hid (by omega)
                        obtain ⟨Ad, capd, hvd⟩ : ∃ Ad capd, u15 = .slice Ad D.length capd := HD.out.slice
                        subst hvd
                        have HTD := Lib.hid HD.out.tms
                        go_wp2_with fail
                        go_loopg [17] D.length (fun ky s17 wr => ∃ (p q : Nat), s17 = .int .i64 (p : Int) ∧ wr = wj.drewN q ∧ p ≤ D.length ∧ p ≤ ky ∧ Hid (∀ j, p ≤ j → ∀ hj : j < D.length, t1 < D[j].tick))
                        case atStart => exact ⟨D.length, 0, rfl, rfl, Nat.le_refl _, Nat.le_refl _, Lib.hid fun j h1 h2 => absurd h2 (by omega)⟩
                        case round =>
                          obtain ⟨p, q, hs17, hwr, hp, hpy, HLO⟩ := hrel
                          subst hs17
                          subst hwr
                          have OUT : Hid (p = 0 ∨ (∃ hq : p - 1 < D.length, D[p - 1].tick ≤ t1) → DueOf (S.take (k + 1)) xt (insT D p ⟨t0, t1, t2⟩)) := Lib.hid fun h => by
                            rw [HTK1.out]
                            exact due_ins HDU.out HDUE.out hp HLO.out h
                          by_cases hp0 : 0 < p
                          · obtain ⟨p1, hp1⟩ : ∃ p1, p = p1 + 1 := ⟨p - 1, by omega⟩
                            have hp1D : p1 < D.length := by omega
                            have hxd := List.getElem?_eq_getElem hp1D
                            obtain ⟨A1, cap1, hsl, hcap1, hcells1⟩ := HTD.out
                            injection hsl with hs1 hs4 hs3
                            subst hs1; subst hs3
                            obtain ⟨b3, o3, rfl, hbl3, ⟨e0, e1, e2⟩⟩ := hcells1 p1 _ hxd
                            obtain ⟨y, HY⟩ : ∃ y, Hid (y = D[p1].tick) := ⟨_, Lib.hid rfl⟩
                            rw [← HY.out] at e1
                            have hp0z : (0 : Int) < (p : Int) := by omega
                            have wp1 : IntKind.i64.wrap ((p : Int) - 1) = (p1 : Int) := by have := HD50.out; rw [IntKind.wrap_i64]; omega
                            have hp1z : (p1 : Int) < (D.length : Int) := by omega
                            have HP1 := Lib.hid hp1
                            clear hxd hcells1 hs4 hcap1 hbl3 e0 e2 hp1
                            by_cases hgt : t1 < y
                            · have HLO2 : Hid (∀ j, p1 ≤ j → ∀ hj : j < D.length, t1 < D[j].tick) := Lib.hid fun j h1 h2 => by
                                by_cases e : j = p1
                                · subst e; rw [← HY.out]; exact hgt
                                · exact HLO.out j (by have := HP1.out; omega) h2
                              go_wp2_with fail
                              go_quiet (fail)
                              go_wp2_with fail
                              go_roundg p1
                              case measure => have := HP1.out; omega
                              case rel => exact ⟨p1, q + nq, by go_num, rfl, by omega, by omega, HLO2⟩
                            · have HDN := Lib.hid (OUT.out (.inr ⟨by have := HP1.out; omega, by
                                have h : p - 1 = p1 := by have := HP1.out; omega
                                simp only [h]
                                rw [← HY.out]; omega⟩))
                              go_wp2_with fail
                              go_quiet (fail)
                              obtain ⟨q2, hq2⟩ : ∃ q2, q2 = q + nq := ⟨_, rfl⟩
                              rw [World.drewN_drewN, ← hq2]
                              have hcapD : D.length ≤ capd := by obtain ⟨_, _, h1, h2, _⟩ := HTD.out; injection h1 with _ _ h3; rw [h3]; exact h2
                              have hPD : p ≤ D.length := by omega
                              have hpcz : (p : Int) ≤ (capd : Int) := by omega
                              have hpDz : (p : Int) ≤ (D.length : Int) := by omega
                              have hpz0 : (0 : Int) ≤ (p : Int) := by omega
                              by_cases hce : capd = p
                              · have hcl : capd = D.length := by omega
                                have hpl : p = D.length := by omega
                                subst hcl
                                clear hce
                                subst hpl
                                have hbq : Below wj.heap.size wj (wj.drewN q2) := below_drewN (Below.refl _ _) q2
                                have HBQ := Lib.hid (HBJ.out.trans (hbq.mono HBJ.out.size))
                                have HREQ := Lib.hid (HRE.out.below hbq)
                                have HTDQ : Hid (TmsAt (wj.drewN q2) (.slice (some ⟨b3, o3, none⟩) D.length D.length) D) := Lib.hid (HD.out.below hbq).tms
                                have HSZQ : Hid ((wj.drewN q2).heap.size = wj.heap.size) := Lib.hid rfl
                                have HXQ : Hid (w5.heap.size ≤ (wj.drewN q2).heap.size) := Lib.hid HBQ.out.size
                                clear hbq
                                generalize wj.drewN q2 = wq at *
                                have HR1 : Hid (RowIs wq 3 (.slice (some ⟨b3, o3, none⟩) D.length D.length) D.length (rowT (D.take D.length))) := Lib.hid (by
                                  have h := rowIs_tms (tms_take HTDQ.out hPD)
                                  rw [List.length_take, Nat.min_eq_left hPD] at h
                                  exact h)
                                have HR2 : Hid (RowIs wq 3 (.slice (some ⟨b3, o3, none⟩) 0 0) 0 []) := Lib.hid (rowIs_tms (L := []) ⟨some ⟨b3, o3, none⟩, 0, rfl, Nat.le_refl _, fun i x hx => by cases hx⟩)
                                go_wp2_with (at_builtin; refine wpList_append_row rfl _ _ 26 rfl wq.heap.size 30 i0 (.agg #[.int .i64 0, .int .i64 0, .int .i64 0]) 3 24 Try.underlying26 HI.out HZ0.out HZ1.out HZ2.out rfl (by decide) _ 0 [] rfl (own_zeroB wq wq.heap.size 30 3 (Nat.le_refl _)) _ D.length (rowT (D.take D.length)) rfl HR1.out (below_box wq (.cells #[] 30)) ?k1Aa ?k2Aa ?k3Aa ?_)
                                case k1Aa => have := HD50.out; have := List.length_take_le D.length D; unfold maxLen; omega
                                case k2Aa => have := HD50.out; have := List.length_take_le D.length D; omega
                                case k3Aa => exact (below_box wq (.cells #[] 30)).size
                                intro v6 w6 ho6 hg6
                                have HB6 : Hid (Below wq.heap.size wq w6) := Lib.hid (below_grown (below_box wq (.cells #[] 30)) hg6 (fun b hb => by injection hb with hb; have hb : wq.heap.size = b := hb; omega))
                                have HO6 : Hid (OwnT w6 wq.heap.size v6 (D.take D.length)) := Lib.hid (by unfold OwnT; first | exact ho6 | (rw [List.length_take, Nat.min_eq_left hPD]; exact ho6) | (rw [List.length_take, Nat.min_eq_left hPD, List.take_length]; exact ho6) | (rw [List.length_take, Nat.min_eq_left hPD]; rw [Nat.zero_add, List.nil_append] at ho6; exact ho6))
                                obtain ⟨d0, d1, d2⟩ := HC5.out w6 (HBQ.out.trans (HB6.out.mono HXQ.out))
                                simp only at d0 d1 d2
                                have HBN6 := Lib.hid (Blk.new w6 30 #[.int .i64 t0, .int .i64 t1, .int .i64 t2])
                                have HO6a := Lib.hid (HO6.out.below (below_box w6 (.cells #[.int .i64 t0, .int .i64 t1, .int .i64 t2] 30)))
                                have HB6a := Lib.hid (HB6.out.trans ((below_box w6 (.cells #[.int .i64 t0, .int .i64 t1, .int .i64 t2] 30)).mono HB6.out.size))
                                clear ho6 hg6
                                go_wp2_with (at_builtin; refine wpList_append_own_at _ rfl _ _ 26 rfl wq.heap.size 30 i0 (.agg #[.int .i64 0, .int .i64 0, .int .i64 0]) 3 24 Try.underlying26 HI.out HZ0.out HZ1.out HZ2.out rfl (by decide) _ _ _ rfl HO6a.out ⟨w6.heap.size, 0, none⟩ 1 1 (encT ⟨t0, t1, t2⟩) rfl rfl (tm_at HBN6.out) (tm_one _) ?k4Aa ?k5Aa ?k6Aa ?_)
                                case k4Aa => have := HD50.out; have := List.length_take_le D.length D; unfold maxLen; omega
                                case k5Aa => have := HD50.out; have := List.length_take_le D.length D; omega
                                case k6Aa => exact HB6a.out.size
                                intro v7 w7 ho7 hg7 _ _
                                have HO7 : Hid (OwnT w7 wq.heap.size v7 (D.take D.length ++ [⟨t0, t1, t2⟩])) := Lib.hid (OwnT.snoc (by first | exact ho7 | (rw [List.length_take, Nat.min_eq_left hPD]; exact ho7) | (rw [List.length_take, Nat.min_eq_left hPD, List.take_length]; exact ho7) | (rw [List.length_take, Nat.min_eq_left hPD, List.take_zero]; exact ho7)))
                                have HB7 := Lib.hid (below_grown HB6a.out hg7 (fun b hb => (HO6a.out.lt b hb).1))
                                clear ho7 hg7 d0 d1 d2
                                go_wp2_with (at_builtin; refine wpList_append_row rfl _ _ 26 rfl wq.heap.size 30 i0 (.agg #[.int .i64 0, .int .i64 0, .int .i64 0]) 3 24 Try.underlying26 HI.out HZ0.out HZ1.out HZ2.out rfl (by decide) _ _ _ rfl HO7.out _ 0 [] rfl HR2.out HB7.out ?k7Aa ?k8Aa ?k9Aa ?_)
                                case k7Aa => have := HD50.out; have := List.length_take_le D.length D; rw [List.length_append]; simp; unfold maxLen; omega
                                case k8Aa => have := HD50.out; have := List.length_take_le D.length D; rw [List.length_append]; simp <;> omega
                                case k9Aa => exact HB7.out.size
                                intro v8 w8 ho8 hg8
                                have HO8 : Hid (OwnT w8 wq.heap.size v8 (insT D D.length ⟨t0, t1, t2⟩)) := Lib.hid (by
                                  unfold OwnT
                                  have e : insT D D.length ⟨t0, t1, t2⟩ = D.take D.length ++ [⟨t0, t1, t2⟩] := by simp
                                  rw [e]
                                  have := HO7.out
                                  unfold OwnT at this
                                  have h8 := ho8
                                  simp at h8 this ⊢
                                  exact h8)
                                have HB8 := Lib.hid (below_grown HB7.out hg8 (fun b hb => (HO7.out.lt b hb).1))
                                have HRE8 := Lib.hid (HREQ.out.below HB8.out)
                                have HB58 := Lib.hid (HBQ.out.trans (HB8.out.mono HXQ.out))
                                have HDJ8 : Hid (∀ b, u14.ownBlock = some b → v8.ownBlock ≠ some b) := Lib.hid fun b hb hc => by
                                  have h1 := (HREQ.out.lt b hb).2
                                  have h2 := (HO8.out.lt b hc).1
                                  omega
                                clear ho8 hg8
                                go_wp2_with fail
                                go_roundg (S.length - (k + 1))
                                case measure => omega
                                case rel => exact ⟨k + 1, insT D D.length ⟨t0, t1, t2⟩, by go_num, by omega, by omega, Lib.hid (by rw [HTK1.out, rest_snoc, if_pos HDUE.out, List.append_nil]; exact HRE8.out), Lib.hid (HO8.out.base HXQ.out), HDN, HB58, HDJ8⟩
                              · have hclt : (p : Int) < (capd : Int) := by omega
                                have hbq : Below wj.heap.size wj (wj.drewN q2) := below_drewN (Below.refl _ _) q2
                                have HBQ := Lib.hid (HBJ.out.trans (hbq.mono HBJ.out.size))
                                have HREQ := Lib.hid (HRE.out.below hbq)
                                have HTDQ : Hid (TmsAt (wj.drewN q2) (.slice (some ⟨b3, o3, none⟩) D.length capd) D) := Lib.hid (HD.out.below hbq).tms
                                have HSZQ : Hid ((wj.drewN q2).heap.size = wj.heap.size) := Lib.hid rfl
                                have HXQ : Hid (w5.heap.size ≤ (wj.drewN q2).heap.size) := Lib.hid HBQ.out.size
                                clear hbq
                                generalize wj.drewN q2 = wq at *
                                have HR1 : Hid (RowIs wq 3 (.slice (some ⟨b3, o3, none⟩) p capd) p (rowT (D.take p))) := Lib.hid (by
                                  have h := rowIs_tms (tms_take HTDQ.out hPD)
                                  rw [List.length_take, Nat.min_eq_left hPD] at h
                                  exact h)
                                have HR2 : Hid (RowIs wq 3 (.slice (some ⟨b3, o3 + p * 3, none⟩) (D.length - p) (capd - p)) (D.length - p) (rowT (D.drop p))) := Lib.hid (by
                                  have h := rowIs_tms (tms_drop (k := p) (o' := o3 + p * 3) HTDQ.out hPD (.inr rfl))
                                  rw [List.length_drop] at h
                                  exact h)
                                go_wp2_with (at_builtin; refine wpList_append_row rfl _ _ 26 rfl wq.heap.size 30 i0 (.agg #[.int .i64 0, .int .i64 0, .int .i64 0]) 3 24 Try.underlying26 HI.out HZ0.out HZ1.out HZ2.out rfl (by decide) _ 0 [] rfl (own_zeroB wq wq.heap.size 30 3 (Nat.le_refl _)) _ p (rowT (D.take p)) rfl HR1.out (below_box wq (.cells #[] 30)) ?k1Ab ?k2Ab ?k3Ab ?_)
                                case k1Ab => have := HD50.out; have := List.length_take_le p D; unfold maxLen; omega
                                case k2Ab => have := HD50.out; have := List.length_take_le p D; omega
                                case k3Ab => exact (below_box wq (.cells #[] 30)).size
                                intro v6 w6 ho6 hg6
                                have HB6 : Hid (Below wq.heap.size wq w6) := Lib.hid (below_grown (below_box wq (.cells #[] 30)) hg6 (fun b hb => by injection hb with hb; have hb : wq.heap.size = b := hb; omega))
                                have HO6 : Hid (OwnT w6 wq.heap.size v6 (D.take p)) := Lib.hid (by unfold OwnT; first | exact ho6 | (rw [List.length_take, Nat.min_eq_left hPD]; exact ho6) | (rw [List.length_take, Nat.min_eq_left hPD, List.take_length]; exact ho6) | (rw [List.length_take, Nat.min_eq_left hPD]; rw [Nat.zero_add, List.nil_append] at ho6; exact ho6))
                                obtain ⟨d0, d1, d2⟩ := HC5.out w6 (HBQ.out.trans (HB6.out.mono HXQ.out))
                                simp only at d0 d1 d2
                                have HBN6 := Lib.hid (Blk.new w6 30 #[.int .i64 t0, .int .i64 t1, .int .i64 t2])
                                have HO6a := Lib.hid (HO6.out.below (below_box w6 (.cells #[.int .i64 t0, .int .i64 t1, .int .i64 t2] 30)))
                                have HB6a := Lib.hid (HB6.out.trans ((below_box w6 (.cells #[.int .i64 t0, .int .i64 t1, .int .i64 t2] 30)).mono HB6.out.size))
                                clear ho6 hg6
                                go_wp2_with (at_builtin; refine wpList_append_own_at _ rfl _ _ 26 rfl wq.heap.size 30 i0 (.agg #[.int .i64 0, .int .i64 0, .int .i64 0]) 3 24 Try.underlying26 HI.out HZ0.out HZ1.out HZ2.out rfl (by decide) _ _ _ rfl HO6a.out ⟨w6.heap.size, 0, none⟩ 1 1 (encT ⟨t0, t1, t2⟩) rfl rfl (tm_at HBN6.out) (tm_one _) ?k4Ab ?k5Ab ?k6Ab ?_)
                                case k4Ab => have := HD50.out; have := List.length_take_le p D; unfold maxLen; omega
                                case k5Ab => have := HD50.out; have := List.length_take_le p D; omega
                                case k6Ab => exact HB6a.out.size
                                intro v7 w7 ho7 hg7 _ _
                                have HO7 : Hid (OwnT w7 wq.heap.size v7 (D.take p ++ [⟨t0, t1, t2⟩])) := Lib.hid (OwnT.snoc (by first | exact ho7 | (rw [List.length_take, Nat.min_eq_left hPD]; exact ho7) | (rw [List.length_take, Nat.min_eq_left hPD, List.take_length]; exact ho7) | (rw [List.length_take, Nat.min_eq_left hPD, List.take_zero]; exact ho7)))
                                have HB7 := Lib.hid (below_grown HB6a.out hg7 (fun b hb => (HO6a.out.lt b hb).1))
                                clear ho7 hg7 d0 d1 d2
                                go_wp2_with (at_builtin; refine wpList_append_row rfl _ _ 26 rfl wq.heap.size 30 i0 (.agg #[.int .i64 0, .int .i64 0, .int .i64 0]) 3 24 Try.underlying26 HI.out HZ0.out HZ1.out HZ2.out rfl (by decide) _ _ _ rfl HO7.out _ (D.length - p) (rowT (D.drop p)) rfl HR2.out HB7.out ?k7Ab ?k8Ab ?k9Ab ?_)
                                case k7Ab => have := HD50.out; have := List.length_take_le p D; rw [List.length_append]; simp; unfold maxLen; omega
                                case k8Ab => have := HD50.out; have := List.length_take_le p D; rw [List.length_append]; simp <;> omega
                                case k9Ab => exact HB7.out.size
                                intro v8 w8 ho8 hg8
                                have HO8 : Hid (OwnT w8 wq.heap.size v8 (insT D p ⟨t0, t1, t2⟩)) := Lib.hid (by
                                  unfold OwnT
                                  have hl : (insT D p ⟨t0, t1, t2⟩).length = p + 1 + (D.length - p) := by simp [Nat.min_eq_left hPD]; omega
                                  rw [hl, rowT_app]
                                  exact ho8)
                                have HB8 := Lib.hid (below_grown HB7.out hg8 (fun b hb => (HO7.out.lt b hb).1))
                                have HRE8 := Lib.hid (HREQ.out.below HB8.out)
                                have HB58 := Lib.hid (HBQ.out.trans (HB8.out.mono HXQ.out))
                                have HDJ8 : Hid (∀ b, u14.ownBlock = some b → v8.ownBlock ≠ some b) := Lib.hid fun b hb hc => by
                                  have h1 := (HREQ.out.lt b hb).2
                                  have h2 := (HO8.out.lt b hc).1
                                  omega
                                clear ho8 hg8
                                go_wp2_with fail
                                go_roundg (S.length - (k + 1))
                                case measure => omega
                                case rel => exact ⟨k + 1, insT D p ⟨t0, t1, t2⟩, by go_num, by omega, by omega, Lib.hid (by rw [HTK1.out, rest_snoc, if_pos HDUE.out, List.append_nil]; exact HRE8.out), Lib.hid (HO8.out.base HXQ.out), HDN, HB58, HDJ8⟩
                          · obtain rfl : p = 0 := by omega
                            have HDN := Lib.hid (OUT.out (.inl rfl))
                            have hp0z : ¬ (0 : Int) < 0 := by omega
                            go_wp2_with fail
                            go_quiet (fail)
                            obtain ⟨q2, hq2⟩ : ∃ q2, q2 = q + nq := ⟨_, rfl⟩
                            rw [World.drewN_drewN, ← hq2]
                            skip
                            have hDsh : (Ad = none ∧ capd = 0 ∧ D = []) ∨ ∃ b3 o3, Ad = some ⟨b3, o3, none⟩ := by
                              rcases HD.out.2 with ⟨h1, h2⟩ | ⟨gd, cap, cur, h1, _⟩
                              · injection h1 with e1 e2 e3
                                exact .inl ⟨e1, e3, List.eq_nil_of_length_eq_zero h2⟩
                              · injection h1 with e1 e2 e3
                                exact .inr ⟨gd, 0, e1⟩
                            have hPD : 0 ≤ D.length := Nat.zero_le _
                            rcases hDsh with ⟨rfl, rfl, rfl⟩ | ⟨b3, o3, rfl⟩
                            · have hbq : Below wj.heap.size wj (wj.drewN q2) := below_drewN (Below.refl _ _) q2
                              have HBQ := Lib.hid (HBJ.out.trans (hbq.mono HBJ.out.size))
                              have HREQ := Lib.hid (HRE.out.below hbq)
                              have HTDQ : Hid (TmsAt (wj.drewN q2) (.slice (none) ([] : List Tm).length 0) ([] : List Tm)) := Lib.hid (HD.out.below hbq).tms
                              have HSZQ : Hid ((wj.drewN q2).heap.size = wj.heap.size) := Lib.hid rfl
                              have HXQ : Hid (w5.heap.size ≤ (wj.drewN q2).heap.size) := Lib.hid HBQ.out.size
                              clear hbq
                              generalize wj.drewN q2 = wq at *
                              have HR1 : Hid (RowIs wq 3 (.slice none 0 0) 0 (rowT (([] : List Tm).take 0))) := Lib.hid (rowIs_tms (L := []) ⟨none, 0, rfl, Nat.le_refl _, fun i x hx => by cases hx⟩)
                              have HR2 : Hid (RowIs wq 3 (.slice none 0 0) 0 []) := Lib.hid (rowIs_tms (L := []) ⟨none, 0, rfl, Nat.le_refl _, fun i x hx => by cases hx⟩)
                              go_wp2_with (at_builtin; refine wpList_append_row rfl _ _ 26 rfl wq.heap.size 30 i0 (.agg #[.int .i64 0, .int .i64 0, .int .i64 0]) 3 24 Try.underlying26 HI.out HZ0.out HZ1.out HZ2.out rfl (by decide) _ 0 [] rfl (own_zeroB wq wq.heap.size 30 3 (Nat.le_refl _)) _ 0 (rowT (([] : List Tm).take 0)) rfl HR1.out (below_box wq (.cells #[] 30)) ?k1Bn ?k2Bn ?k3Bn ?_)
                              case k1Bn => have := HD50.out; have := List.length_take_le 0 ([] : List Tm); unfold maxLen; omega
                              case k2Bn => have := HD50.out; have := List.length_take_le 0 ([] : List Tm); omega
                              case k3Bn => exact (below_box wq (.cells #[] 30)).size
                              intro v6 w6 ho6 hg6
                              have HB6 : Hid (Below wq.heap.size wq w6) := Lib.hid (below_grown (below_box wq (.cells #[] 30)) hg6 (fun b hb => by injection hb with hb; have hb : wq.heap.size = b := hb; omega))
                              have HO6 : Hid (OwnT w6 wq.heap.size v6 (([] : List Tm).take 0)) := Lib.hid (by unfold OwnT; first | exact ho6 | (rw [List.length_take, Nat.min_eq_left hPD]; exact ho6) | (rw [List.length_take, Nat.min_eq_left hPD, List.take_length]; exact ho6) | (rw [List.length_take, Nat.min_eq_left hPD]; rw [Nat.zero_add, List.nil_append] at ho6; exact ho6))
                              obtain ⟨d0, d1, d2⟩ := HC5.out w6 (HBQ.out.trans (HB6.out.mono HXQ.out))
                              simp only at d0 d1 d2
                              have HBN6 := Lib.hid (Blk.new w6 30 #[.int .i64 t0, .int .i64 t1, .int .i64 t2])
                              have HO6a := Lib.hid (HO6.out.below (below_box w6 (.cells #[.int .i64 t0, .int .i64 t1, .int .i64 t2] 30)))
                              have HB6a := Lib.hid (HB6.out.trans ((below_box w6 (.cells #[.int .i64 t0, .int .i64 t1, .int .i64 t2] 30)).mono HB6.out.size))
                              clear ho6 hg6
                              go_wp2_with (at_builtin; refine wpList_append_own_at _ rfl _ _ 26 rfl wq.heap.size 30 i0 (.agg #[.int .i64 0, .int .i64 0, .int .i64 0]) 3 24 Try.underlying26 HI.out HZ0.out HZ1.out HZ2.out rfl (by decide) _ _ _ rfl HO6a.out ⟨w6.heap.size, 0, none⟩ 1 1 (encT ⟨t0, t1, t2⟩) rfl rfl (tm_at HBN6.out) (tm_one _) ?k4Bn ?k5Bn ?k6Bn ?_)
                              case k4Bn => have := HD50.out; have := List.length_take_le 0 ([] : List Tm); unfold maxLen; omega
                              case k5Bn => have := HD50.out; have := List.length_take_le 0 ([] : List Tm); omega
                              case k6Bn => exact HB6a.out.size
                              intro v7 w7 ho7 hg7 _ _
                              have HO7 : Hid (OwnT w7 wq.heap.size v7 (([] : List Tm).take 0 ++ [⟨t0, t1, t2⟩])) := Lib.hid (OwnT.snoc (by first | exact ho7 | (rw [List.length_take, Nat.min_eq_left hPD]; exact ho7) | (rw [List.length_take, Nat.min_eq_left hPD, List.take_length]; exact ho7) | (rw [List.length_take, Nat.min_eq_left hPD, List.take_zero]; exact ho7)))
                              have HB7 := Lib.hid (below_grown HB6a.out hg7 (fun b hb => (HO6a.out.lt b hb).1))
                              clear ho7 hg7 d0 d1 d2
                              go_wp2_with (at_builtin; refine wpList_append_row rfl _ _ 26 rfl wq.heap.size 30 i0 (.agg #[.int .i64 0, .int .i64 0, .int .i64 0]) 3 24 Try.underlying26 HI.out HZ0.out HZ1.out HZ2.out rfl (by decide) _ _ _ rfl HO7.out _ 0 [] rfl HR2.out HB7.out ?k7Bn ?k8Bn ?k9Bn ?_)
                              case k7Bn => have := HD50.out; have := List.length_take_le 0 ([] : List Tm); rw [List.length_append]; simp; unfold maxLen; omega
                              case k8Bn => have := HD50.out; have := List.length_take_le 0 ([] : List Tm); rw [List.length_append]; simp <;> omega
                              case k9Bn => exact HB7.out.size
                              intro v8 w8 ho8 hg8
                              have HO8 : Hid (OwnT w8 wq.heap.size v8 (insT ([] : List Tm) 0 ⟨t0, t1, t2⟩)) := Lib.hid (by
                                unfold OwnT
                                have h8 := ho8
                                simp at h8 ⊢
                                exact h8)
                              have HB8 := Lib.hid (below_grown HB7.out hg8 (fun b hb => (HO7.out.lt b hb).1))
                              have HRE8 := Lib.hid (HREQ.out.below HB8.out)
                              have HB58 := Lib.hid (HBQ.out.trans (HB8.out.mono HXQ.out))
                              have HDJ8 : Hid (∀ b, u14.ownBlock = some b → v8.ownBlock ≠ some b) := Lib.hid fun b hb hc => by
                                have h1 := (HREQ.out.lt b hb).2
                                have h2 := (HO8.out.lt b hc).1
                                omega
                              clear ho8 hg8
                              go_wp2_with fail
                              go_roundg (S.length - (k + 1))
                              case measure => omega
                              case rel => exact ⟨k + 1, insT ([] : List Tm) 0 ⟨t0, t1, t2⟩, by go_num, by omega, by omega, Lib.hid (by rw [HTK1.out, rest_snoc, if_pos HDUE.out, List.append_nil]; exact HRE8.out), Lib.hid (HO8.out.base HXQ.out), HDN, HB58, HDJ8⟩
                            · have hcapD : D.length ≤ capd := by obtain ⟨_, _, h1, h2, _⟩ := HTD.out; injection h1 with _ _ h3; rw [h3]; exact h2
                              have hcDz : (D.length : Int) ≤ (capd : Int) := by omega
                              have hbq : Below wj.heap.size wj (wj.drewN q2) := below_drewN (Below.refl _ _) q2
                              have HBQ := Lib.hid (HBJ.out.trans (hbq.mono HBJ.out.size))
                              have HREQ := Lib.hid (HRE.out.below hbq)
                              have HTDQ : Hid (TmsAt (wj.drewN q2) (.slice (some ⟨b3, o3, none⟩) D.length capd) D) := Lib.hid (HD.out.below hbq).tms
                              have HSZQ : Hid ((wj.drewN q2).heap.size = wj.heap.size) := Lib.hid rfl
                              have HXQ : Hid (w5.heap.size ≤ (wj.drewN q2).heap.size) := Lib.hid HBQ.out.size
                              clear hbq
                              generalize wj.drewN q2 = wq at *
                              have HR1 : Hid (RowIs wq 3 (.slice (some ⟨b3, o3, none⟩) 0 capd) 0 (rowT (D.take 0))) := Lib.hid (rowIs_tms (tms_take HTDQ.out hPD))
                              have HR2 : Hid (RowIs wq 3 (.slice (some ⟨b3, o3, none⟩) D.length capd) D.length (rowT D)) := Lib.hid (rowIs_tms HTDQ.out)
                              go_wp2_with (at_builtin; refine wpList_append_row rfl _ _ 26 rfl wq.heap.size 30 i0 (.agg #[.int .i64 0, .int .i64 0, .int .i64 0]) 3 24 Try.underlying26 HI.out HZ0.out HZ1.out HZ2.out rfl (by decide) _ 0 [] rfl (own_zeroB wq wq.heap.size 30 3 (Nat.le_refl _)) _ 0 (rowT (D.take 0)) rfl HR1.out (below_box wq (.cells #[] 30)) ?k1Bs ?k2Bs ?k3Bs ?_)
                              case k1Bs => have := HD50.out; have := List.length_take_le 0 D; unfold maxLen; omega
                              case k2Bs => have := HD50.out; have := List.length_take_le 0 D; omega
                              case k3Bs => exact (below_box wq (.cells #[] 30)).size
                              intro v6 w6 ho6 hg6
                              have HB6 : Hid (Below wq.heap.size wq w6) := Lib.hid (below_grown (below_box wq (.cells #[] 30)) hg6 (fun b hb => by injection hb with hb; have hb : wq.heap.size = b := hb; omega))
                              have HO6 : Hid (OwnT w6 wq.heap.size v6 (D.take 0)) := Lib.hid (by unfold OwnT; first | exact ho6 | (rw [List.length_take, Nat.min_eq_left hPD]; exact ho6) | (rw [List.length_take, Nat.min_eq_left hPD, List.take_length]; exact ho6) | (rw [List.length_take, Nat.min_eq_left hPD]; rw [Nat.zero_add, List.nil_append] at ho6; exact ho6))
                              obtain ⟨d0, d1, d2⟩ := HC5.out w6 (HBQ.out.trans (HB6.out.mono HXQ.out))
                              simp only at d0 d1 d2
                              have HBN6 := Lib.hid (Blk.new w6 30 #[.int .i64 t0, .int .i64 t1, .int .i64 t2])
                              have HO6a := Lib.hid (HO6.out.below (below_box w6 (.cells #[.int .i64 t0, .int .i64 t1, .int .i64 t2] 30)))
                              have HB6a := Lib.hid (HB6.out.trans ((below_box w6 (.cells #[.int .i64 t0, .int .i64 t1, .int .i64 t2] 30)).mono HB6.out.size))
                              clear ho6 hg6
                              go_wp2_with (at_builtin; refine wpList_append_own_at _ rfl _ _ 26 rfl wq.heap.size 30 i0 (.agg #[.int .i64 0, .int .i64 0, .int .i64 0]) 3 24 Try.underlying26 HI.out HZ0.out HZ1.out HZ2.out rfl (by decide) _ _ _ rfl HO6a.out ⟨w6.heap.size, 0, none⟩ 1 1 (encT ⟨t0, t1, t2⟩) rfl rfl (tm_at HBN6.out) (tm_one _) ?k4Bs ?k5Bs ?k6Bs ?_)
                              case k4Bs => have := HD50.out; have := List.length_take_le 0 D; unfold maxLen; omega
                              case k5Bs => have := HD50.out; have := List.length_take_le 0 D; omega
                              case k6Bs => exact HB6a.out.size
                              intro v7 w7 ho7 hg7 _ _
                              have HO7 : Hid (OwnT w7 wq.heap.size v7 (D.take 0 ++ [⟨t0, t1, t2⟩])) := Lib.hid (OwnT.snoc (by first | exact ho7 | (rw [List.length_take, Nat.min_eq_left hPD]; exact ho7) | (rw [List.length_take, Nat.min_eq_left hPD, List.take_length]; exact ho7) | (rw [List.length_take, Nat.min_eq_left hPD, List.take_zero]; exact ho7)))
                              have HB7 := Lib.hid (below_grown HB6a.out hg7 (fun b hb => (HO6a.out.lt b hb).1))
                              clear ho7 hg7 d0 d1 d2
                              go_wp2_with (at_builtin; refine wpList_append_row rfl _ _ 26 rfl wq.heap.size 30 i0 (.agg #[.int .i64 0, .int .i64 0, .int .i64 0]) 3 24 Try.underlying26 HI.out HZ0.out HZ1.out HZ2.out rfl (by decide) _ _ _ rfl HO7.out _ D.length (rowT D) rfl HR2.out HB7.out ?k7Bs ?k8Bs ?k9Bs ?_)
                              case k7Bs => have := HD50.out; have := List.length_take_le 0 D; rw [List.length_append]; simp; unfold maxLen; omega
                              case k8Bs => have := HD50.out; have := List.length_take_le 0 D; rw [List.length_append]; simp <;> omega
                              case k9Bs => exact HB7.out.size
                              intro v8 w8 ho8 hg8
                              have HO8 : Hid (OwnT w8 wq.heap.size v8 (insT D 0 ⟨t0, t1, t2⟩)) := Lib.hid (by
                                unfold OwnT
                                have e : (insT D 0 ⟨t0, t1, t2⟩).length = 1 + D.length := by simp; omega
                                have e2 : rowT (insT D 0 ⟨t0, t1, t2⟩) = rowT [⟨t0, t1, t2⟩] ++ rowT D := by rw [← rowT_app]; simp
                                rw [e, e2]
                                exact ho8)
                              have HB8 := Lib.hid (below_grown HB7.out hg8 (fun b hb => (HO7.out.lt b hb).1))
                              have HRE8 := Lib.hid (HREQ.out.below HB8.out)
                              have HB58 := Lib.hid (HBQ.out.trans (HB8.out.mono HXQ.out))
                              have HDJ8 : Hid (∀ b, u14.ownBlock = some b → v8.ownBlock ≠ some b) := Lib.hid fun b hb hc => by
                                have h1 := (HREQ.out.lt b hb).2
                                have h2 := (HO8.out.lt b hc).1
                                omega
                              clear ho8 hg8
                              go_wp2_with fail
                              go_roundg (S.length - (k + 1))
                              case measure => omega
                              case rel => exact ⟨k + 1, insT D 0 ⟨t0, t1, t2⟩, by go_num, by omega, by omega, Lib.hid (by rw [HTK1.out, rest_snoc, if_pos HDUE.out, List.append_nil]; exact HRE8.out), Lib.hid (HO8.out.base HXQ.out), HDN, HB58, HDJ8⟩
                    · have hklz : ¬ (k : Int) < (S.length : Int) := by omega
                      obtain rfl : k = S.length := by omega
                      rw [List.take_length] at HRE HDU
                      have hRD : R = D := due_one R D HR.out.1 HDU.out.1 (fun x => (HR.out.2 x).trans (HDU.out.2 x).symm)
                      subst hRD
                      obtain ⟨Ar, capr, hvr⟩ : ∃ Ar capr, u14 = .slice Ar (restF S xt).length capr := HRE.out.slice
                      subst hvr
                      obtain ⟨Ad, capd, hvd⟩ : ∃ Ad capd, u15 = .slice Ad R.length capd := HD.out.slice
                      subst hvd
                      have HTL : Hid (TmsAt wj (.slice Al R.length capl) R) := Lib.hid (HRT.out.below HBJ.out)
                      have HTD := Lib.hid HD.out.tms
                      go_wp2_with fail
                      go_loopg [19] R.length (fun ky s19 wr => ∃ (p q : Nat), s19 = .int .i64 (p : Int) ∧ wr = wj.drewN q ∧ p ≤ R.length ∧ R.length - p ≤ ky)
                      case atStart => exact ⟨0, 0, rfl, rfl, Nat.zero_le _, by omega⟩
                      case round =>
                        obtain ⟨p, q, hs19, hwr, hp, hpy⟩ := hrel
                        subst hs19
                        subst hwr
                        by_cases hpl : p < R.length
                        · have hplz : (p : Int) < (R.length : Int) := by omega
                          have hx := List.getElem?_eq_getElem hpl
                          obtain ⟨A0, cap0, hsl, hcap, hcells⟩ := HTL.out
                          injection hsl with hs1 hs2 hs3
                          subst hs1; subst hs3
                          obtain ⟨b3, o3, rfl, hbl3, ⟨d0, d1, d2⟩⟩ := hcells p _ hx
                          obtain ⟨A1, cap1, hsl, hcap1, hcells1⟩ := HTD.out
                          injection hsl with hs1 hs4 hs3
                          subst hs1; subst hs3
                          obtain ⟨b4, o4, rfl, hbl4, ⟨e0, e1, e2⟩⟩ := hcells1 p _ hx
                          generalize R[p] = t at d0 d1 d2 e0 e1 e2
                          obtain ⟨t0, t1, t2⟩ := t
                          simp only at d0 d1 d2 e0 e1 e2
                          have hneq := neq_tm t0 t1 t2
                          have wp1 : IntKind.i64.wrap ((p : Int) + 1) = (p : Int) + 1 := by have := HD50.out; rw [IntKind.wrap_i64]; omega
                          clear hx hcells hcells1 hs2 hs4 hcap hcap1 hbl3 hbl4
                          go_wp2_with fail
                          go_quiet (fail)
                          go_wp2_with fail
                          go_roundg (R.length - (p + 1))
                          case measure => omega
                          case rel => exact ⟨p + 1, q + nq, by go_num, rfl, by omega, by omega⟩
                        · have hplz : ¬ (p : Int) < (R.length : Int) := by omega
                          obtain rfl : p = R.length := by omega
                          have hbq : Below wj.heap.size wj (wj.drewN q) := below_drewN (Below.refl _ _) q
                          have HB5q := Lib.hid (HBJ.out.trans (hbq.mono HBJ.out.size))
                          have HVn : Hid (WhAt w.heap.size (wj.drewN q) g m v5 xt (restF S xt)) := Lib.hid (HV5.out.below HB5q.out)
                          have HOn : Hid (OwnT (wj.drewN q) w.heap.size _ (restF S xt)) := Lib.hid ((HRE.out.below hbq).base HB5.out.size)
                          have HONn : Hid (∀ b, Own g m v5 b → (Value.slice Ar (restF S xt).length capr).ownBlock ≠ some b) := Lib.hid fun b hb hc => by
                            have h1 := (HRE.out.lt b hc).1
                            have h2 := (HV5.out.own_lt b hb).2
                            omega
                          have HBn := Lib.hid (HB5.out.trans (HB5q.out.mono HB5.out.size))
                          clear hbq
                          generalize wj.drewN q = wq at *
                          go_wp2_with fail
                          have HNW := Lib.hid (now_any w.heap.size g m v5 xt _ wq HVn.out)
                          have HLN := Lib.hid (len_any w.heap.size g m v5 xt _ wq HVn.out)
                          go_wp2_with (first | (go_at_call 11; refine HNW.out.mono ?_; rintro e w20 ⟨rfl, rfl⟩) | (go_at_call 12; refine HLN.out.mono ?_; rintro e w20 ⟨rfl, rfl⟩) | fail)
                          go_roundg (l.length - (i + 1))
                          case measure => omega
                          case rel => exact ⟨i + 1, xt, v5, _, by go_num, rfl, by omega, by omega, HVn, HSn, HOn, HONn, HBn⟩
      · have hltz : ¬ (i : Int) < (l.length : Int) := by omega
        go_wp2_with fail
        go_ret
        exact ⟨rfl, HB.out⟩
end Go.Proofs.Ytlfiijlfokckkaa
