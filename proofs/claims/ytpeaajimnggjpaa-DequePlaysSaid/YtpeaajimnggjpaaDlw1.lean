/- DequePlays: what anything that is done with a deque comes to. -/
import Derived.Test.YtpeaajimnggjpaaDarg
namespace Go.Proofs.Ytpeaajimnggjpaa
open Go.ChangeShapes Go.WideShapes Go.ChangeAt Go.RowKit
set_option linter.unusedVariables false

/-- the deque beside the law's own row -/
structure PD (W0 : Nat) (w : World) (g : Nat) (v s5 : Value) (L M : List Value) : Prop where
  dq : DqAt W0 w g 26 3 v L
  row : InV w W0 3 s5 M
  apart : ∀ b, s5.ownBlock = some b → ¬ (b = g ∨ v.ownBlock = some b)
theorem PD.call {W0 g : Nat} {w w' : World} {v s5 : Value} {L M L' : List Value} (h : PD W0 w g v s5 L M) (hp : DqPost W0 g 26 3 v L' w w') : (∃ v', PD W0 w' g v' s5 L' M) ∧ ∀ a : World, W0 = a.heap.size → Below a.heap.size a w → Below a.heap.size a w' := by
  obtain ⟨v', hd, hk, ho⟩ := hp
  refine ⟨⟨v', hd, h.row.kb hk h.apart, fun b hb hc => ?_⟩, fun a ha hb => dq_frame h.dq (by omega) hb hk⟩
  rcases hc with hc | hc
  · exact h.apart b hb (.inl hc)
  · rcases ho b hc with h1 | h1
    · exact h.apart b hb (.inr h1)
    · have := (h.row.lt b hb).2
      omega
theorem PD.app {W0 g : Nat} {x : Int} {w w4 : World} {v s5 v' : Value} {L M M' : List Value} (h : PD W0 w g v s5 L M) (hown : InV w4 W0 3 v' M') (hg : (w.alloc (.cells #[.int .i64 x] 3)).grownBy w4 s5.ownBlock) (hloc : ∀ k, v'.ownBlock = some k → s5.ownBlock = some k ∨ (w.alloc (.cells #[.int .i64 x] 3)).heap.size ≤ k) :
    PD W0 w4 g v v' L M' ∧ ∀ a : World, W0 = a.heap.size → Below a.heap.size a w → Below a.heap.size a w4 := by
  have hk : KB (fun b => s5.ownBlock = some b) w w4 := (KB.of_below (below_box w _)).trans (KB.of_grown hg fun b hb => hb)
  refine ⟨⟨h.dq.kb hk fun b hb hc => h.apart b hc hb, hown, fun b hb hc => ?_⟩, fun a ha hb => below_kb hb hk fun b hc => by rw [← ha]; exact (h.row.lt b hc).1⟩
  rcases hloc b hb with h1 | h1
  · exact h.apart b h1 hc
  · have := (h.dq.own hc).2
    simp at h1
    omega
theorem PD.turn {W0 g : Nat} {w : World} {v s5 s5' : Value} {L M M' : List Value} (h : PD W0 w g v s5 L M) (hr : InV w W0 3 s5' M') (hb : s5'.ownBlock = s5.ownBlock) : PD W0 w g v s5' L M' := ⟨h.dq, hr, fun b hc => h.apart b (by rw [← hb, hc])⟩
theorem InV.last {w : World} {B : Nat} {e : TypeId} {v x : Value} {K : List Value} (h : InV w B e v (K ++ [x])) : ∃ g o cap, v = .slice (some ⟨g, o, none⟩) (K.length + 1) cap ∧ K.length + 1 ≤ cap ∧ w.cell? ⟨g, o + K.length, none⟩ = some x := by
  rcases h with ⟨_, h0⟩ | ⟨g, o, cap, cur, h1, h2, h3, h4, h5, h6⟩
  · simp at h0
  · rw [List.length_append, List.length_singleton] at h1 h4 h6
    exact ⟨g, o, cap, h1, h4, cut_cell h3 h6 (by simp)⟩
theorem InV.first {w : World} {B : Nat} {e : TypeId} {v x : Value} {K : List Value} (h : InV w B e v (x :: K)) : ∃ g o cap, v = .slice (some ⟨g, o, none⟩) (K.length + 1) cap ∧ K.length + 1 ≤ cap ∧ w.cell? ⟨g, o, none⟩ = some x := by
  rcases h with ⟨_, h0⟩ | ⟨g, o, cap, cur, h1, h2, h3, h4, h5, h6⟩
  · simp at h0
  · rw [List.length_cons] at h1 h4 h6
    exact ⟨g, o, cap, h1, h4, cut_cell (j := 0) h3 h6 rfl⟩
def nums (L : List Int) : List Value := L.map fun x => .int .i64 x
theorem nums_len (L : List Int) : (nums L).length = L.length := by simp [nums]
theorem nums_app (L : List Int) (x : Int) : nums (L ++ [x]) = nums L ++ [.int .i64 x] := by simp [nums]
set_option maxHeartbeats 2000000 in
set_option maxRecDepth 100000 in
theorem plays_long (A1 : Option Addr) (n1 c1 : Nat) (w : World) (h : 500 < n1) : Calls Try.prog 3 #[.slice A1 n1 c1] w fun e w' => e = .returned (.bool true) ∧ Below w.heap.size w w' := by
  have HU := Lib.hid (up_any w)
  have haz : 500 < (n1 : Int) := by omega
  go_enter Try.func3, Try.ntmps3
  go_wp2_with fail
  refine HU.out.mono ?_
  rintro e w1 ⟨rfl, hb1⟩
  have HB1 := Lib.hid hb1
  clear hb1
  go_wp2_with fail
  go_ret
  exact ⟨rfl, HB1.out⟩
set_option maxHeartbeats 8000000 in
set_option maxRecDepth 100000 in
theorem plays_main (v1 : Value) (d : List Dd) (w : World) (hL : RowsAt 2 DdAt w v1 d) (hG : ∀ (i : Nat) (x : Dd), d[i]? = some x → DdG x) (hl : d.length ≤ 500) : Calls Try.prog 3 #[v1] w fun e w' => e = .returned (.bool true) ∧ Below w.heap.size w w' := by
  have HU := Lib.hid (up_any w)
  obtain ⟨A1, cap1, rfl, hc1, he1⟩ := hL
  have HE1 := Lib.hid he1
  have HGD := Lib.hid hG
  have haz : ¬ 500 < (d.length : Int) := by omega
  obtain ⟨W0, HW0⟩ : ∃ W0, Hid (W0 = w.heap.size) := ⟨_, Lib.hid rfl⟩
  obtain ⟨i3, hi3, hz30, hz31, hz32⟩ := info_parts Try.info3
  have HI3 := Lib.hid hi3
  have HZ30 := Lib.hid hz30
  have HZ31 := Lib.hid hz31
  have HZ32 := Lib.hid hz32
  clear hc1 he1 hG hi3 hz30 hz31 hz32
  go_enter Try.func3, Try.ntmps3
  go_wp2_with fail
  refine HU.out.mono ?_
  rintro e w1 ⟨rfl, hb1⟩
  have hd2 := (DqAt.new w1 26 3).base (B' := W0) (by rw [HW0.out]; exact hb1.size)
  have HB2 : Hid (Below w.heap.size w (w1.alloc (.cells #[.slice none 0 0] 26))) := Lib.hid (hb1.trans ((below_box w1 _).mono hb1.size))
  clear hb1
  obtain ⟨g, hg⟩ : ∃ g, g = w1.heap.size := ⟨_, rfl⟩
  rw [← hg] at hd2
  have HP2 : Hid (PD W0 (w1.alloc (.cells #[.slice none 0 0] 26)) g (.slice none 0 0) (.slice none 0 0) (nums []) (nums [])) := Lib.hid ⟨hd2, InV.nil _ _ _, fun b hb => (by cases hb)⟩
  have HG := Lib.hid hg
  clear hd2 hg
  go_wp2_with fail
  rw [← HG.out]
  go_loopg [6, 5] d.length (fun kx s6 s5 wr => ∃ (i : Nat) (v : Value) (L : List Int), s6 = .int .i64 (i : Int) ∧ i ≤ d.length ∧ d.length - i ≤ kx ∧ L.length ≤ i ∧ Hid (PD W0 wr g v s5 (nums L) (nums L)) ∧ Hid (Below w.heap.size w wr))
  case atStart => exact ⟨0, _, [], rfl, Nat.zero_le _, by omega, by simp, HP2, HB2⟩
  case round =>
    clear HP2 HB2
    obtain ⟨i, v, L, hs6, hi, hkx, hLi, HP, HB⟩ := hrel
    subst hs6
    obtain ⟨wi, rfl⟩ : ∃ W : World, W = wr := ⟨_, rfl⟩
    by_cases hlt : i < d.length
    · have hltz : (i : Int) < (d.length : Int) := by omega
      have hx := List.getElem?_eq_getElem hlt
      obtain ⟨b, o, rfl, hbl, hc⟩ := HE1.out i _ hx
      obtain ⟨g0, g1⟩ := HGD.out i _ hx
      have HCX : Hid (∀ W, Below w.heap.size w W → DdAt W b (o + i * 2) d[i]) := Lib.hid fun W hb => DdAt.keeps w W b _ _ hb hbl hc
      generalize d[i] = x at HCX g0 g1
      obtain ⟨xw, xn⟩ := x
      simp only at g0 g1
      obtain ⟨c0, c1⟩ := HCX.out wi HB.out
      simp only at c0 c1
      have wi1 : IntKind.i64.wrap ((i : Int) + 1) = (i : Int) + 1 := by rw [IntKind.wrap_i64]; omega
      have HPK := Lib.hid (pick_any xw 4 wi g0 (by omega) (by omega))
      have hpr := pickF_in xw (n := 4) (by omega)
      generalize pickF xw 4 = P at HPK hpr
      clear hx hc hbl g0 g1
      by_cases hP0 : P = 0 ∨ P = 1
      · have HAD := Lib.hid (pushI_any W0 g v (nums L) xn wi HP.out.dq (by rw [nums_len]; omega) (by rw [HW0.out]; exact HB.out.size))
        rw [← nums_app] at HAD
        obtain ⟨A5, cap5, hv5⟩ := HP.out.row.slice
        rw [nums_len] at hv5
        subst hv5
        rcases hP0 with rfl | rfl
        · as_aux_lemma =>
            go_wp2_with fail
            refine HPK.out.mono ?_
            rintro e w3 ⟨rfl, rfl⟩
            go_wp2_with fail
            refine HAD.out.mono ?_
            rintro e w4 ⟨rfl, hp4⟩
            obtain ⟨⟨v4, hq4⟩, hf4⟩ := HP.out.call hp4
            have HP4 := Lib.hid hq4
            have HB4 : Hid (Below w.heap.size w w4) := Lib.hid (hf4 w HW0.out HB.out)
            obtain ⟨c04, c14⟩ := HCX.out w4 HB4.out
            have HRA := Lib.hid (HP4.out.row.below (below_box w4 (.cells #[.int .i64 xn] 3)))
            have HBN := Lib.hid (Blk.new w4 3 #[.int .i64 xn])
            have HBB : Hid (W0 ≤ (w4.alloc (.cells #[.int .i64 xn] 3)).heap.size) := Lib.hid (by have := HB4.out.size; have := HW0.out; simp; omega)
            clear hp4 hq4 hf4 c0 c1
            go_wp2_with (at_builtin; refine wpList_append_inV rfl _ _ 24 rfl W0 3 i3 (.int .i64 0) 8 Try.underlying24 HI3.out HZ30.out HZ31.out HZ32.out rfl _ (nums L) rfl HRA.out ⟨w4.heap.size, 0, none⟩ 1 (.int .i64 xn) rfl rfl (HBN.out.cell 0) ?c3 ?c4 HBB.out ?_)
            case c3 => rw [nums_len]; unfold maxLen; omega
            case c4 => rw [nums_len]; omega
            intro v' w5 hown hgrow hloc
            obtain ⟨hp5, hb5⟩ := HP4.out.app hown hgrow (by simpa using hloc)
            rw [← nums_app] at hp5
            have HLN := Lib.hid (lenI_any W0 g _ _ _ hp5.dq)
            obtain ⟨A6, cap6, hv6⟩ := hp5.row.slice
            rw [nums_len, List.length_append, List.length_singleton] at hv6 HLN
            subst hv6
            have HP5 := Lib.hid hp5
            have HB5 : Hid (Below w.heap.size w w5) := Lib.hid (hb5 w HW0.out HB4.out)
            clear hown hgrow hloc hp5 hb5
            go_wp2_with fail
            refine HLN.out.mono ?_
            rintro e w6 ⟨rfl, rfl⟩
            go_wp2_with fail
            go_roundg (d.length - (i + 1))
            case measure => omega
            case rel => exact ⟨i + 1, v4, L ++ [xn], by go_num, by omega, by omega, by simp; omega, HP5, HB5⟩
        · as_aux_lemma =>
            go_wp2_with fail
            refine HPK.out.mono ?_
            rintro e w3 ⟨rfl, rfl⟩
            go_wp2_with fail
            refine HAD.out.mono ?_
            rintro e w4 ⟨rfl, hp4⟩
            obtain ⟨⟨v4, hq4⟩, hf4⟩ := HP.out.call hp4
            have HP4 := Lib.hid hq4
            have HB4 : Hid (Below w.heap.size w w4) := Lib.hid (hf4 w HW0.out HB.out)
            obtain ⟨c04, c14⟩ := HCX.out w4 HB4.out
            have HRA := Lib.hid (HP4.out.row.below (below_box w4 (.cells #[.int .i64 xn] 3)))
            have HBN := Lib.hid (Blk.new w4 3 #[.int .i64 xn])
            have HBB : Hid (W0 ≤ (w4.alloc (.cells #[.int .i64 xn] 3)).heap.size) := Lib.hid (by have := HB4.out.size; have := HW0.out; simp; omega)
            clear hp4 hq4 hf4 c0 c1
            go_wp2_with (at_builtin; refine wpList_append_inV rfl _ _ 24 rfl W0 3 i3 (.int .i64 0) 8 Try.underlying24 HI3.out HZ30.out HZ31.out HZ32.out rfl _ (nums L) rfl HRA.out ⟨w4.heap.size, 0, none⟩ 1 (.int .i64 xn) rfl rfl (HBN.out.cell 0) ?c3b ?c4b HBB.out ?_)
            case c3b => rw [nums_len]; unfold maxLen; omega
            case c4b => rw [nums_len]; omega
            intro v' w5 hown hgrow hloc
            obtain ⟨hp5, hb5⟩ := HP4.out.app hown hgrow (by simpa using hloc)
            rw [← nums_app] at hp5
            have HLN := Lib.hid (lenI_any W0 g _ _ _ hp5.dq)
            obtain ⟨A6, cap6, hv6⟩ := hp5.row.slice
            rw [nums_len, List.length_append, List.length_singleton] at hv6 HLN
            subst hv6
            have HP5 := Lib.hid hp5
            have HB5 : Hid (Below w.heap.size w w5) := Lib.hid (hb5 w HW0.out HB4.out)
            clear hown hgrow hloc hp5 hb5
            go_wp2_with fail
            refine HLN.out.mono ?_
            rintro e w6 ⟨rfl, rfl⟩
            go_wp2_with fail
            go_roundg (d.length - (i + 1))
            case measure => omega
            case rel => exact ⟨i + 1, v4, L ++ [xn], by go_num, by omega, by omega, by simp; omega, HP5, HB5⟩
      · by_cases hP2 : P = 2
        · subst hP2
          clear hpr hP0
          by_cases hne : L = []
          · subst hne
            as_aux_lemma =>
              have HLN := Lib.hid (lenI_any W0 g _ _ _ HP.out.dq)
              have HC := Lib.hid (popI_none W0 g v wi HP.out.dq)
              obtain ⟨A5, cap5, hv5⟩ := HP.out.row.slice
              subst hv5
              go_wp2_with fail
              refine HPK.out.mono ?_
              rintro e w3 ⟨rfl, rfl⟩
              go_wp2_with fail
              refine HC.out.mono ?_
              rintro e w4 ⟨rfl, rfl⟩
              go_wp2_with fail
              refine HLN.out.mono ?_
              rintro e w6 ⟨rfl, rfl⟩
              go_wp2_with fail
              go_roundg (d.length - (i + 1))
              case measure => omega
              case rel => exact ⟨i + 1, v, [], by go_num, by omega, by omega, by simp, HP, HB⟩
          · as_aux_lemma =>
              obtain ⟨K, y, rfl⟩ := last_of L hne
              rw [List.length_append, List.length_singleton] at hLi
              rw [nums_app] at HP
              have HC := Lib.hid (popI_some W0 g v (nums K) y wi HP.out.dq (by rw [nums_len]; omega))
              obtain ⟨g5, o5, cap5, hv5, hcap5, _⟩ := HP.out.row.last
              rw [nums_len] at hv5 hcap5
              subst hv5
              have wn1 : IntKind.i64.wrap ((K.length : Int) + 1 - 1) = (K.length : Int) := by rw [IntKind.wrap_i64]; omega
              have hyy : (y != y) = false := by simp
              have hltw : (K.length : Int) < (K.length : Int) + 1 := by omega
              have hgt0 : 0 < (K.length : Int) + 1 := by omega
              have hk0 : (0 : Int) ≤ (K.length : Int) := by omega
              have hkc : (K.length : Int) ≤ (cap5 : Int) := by omega
              go_wp2_with fail
              refine HPK.out.mono ?_
              rintro e w3 ⟨rfl, rfl⟩
              go_wp2_with fail
              refine HC.out.mono ?_
              rintro e w4 ⟨rfl, hp4⟩
              obtain ⟨⟨v4, hq4⟩, hf4⟩ := HP.out.call hp4
              have HB4 : Hid (Below w.heap.size w w4) := Lib.hid (hf4 w HW0.out HB.out)
              have hcy : w4.cell? ⟨g5, o5 + K.length, none⟩ = some (.int .i64 y) := by
                obtain ⟨g6, o6, cap6, e1, _, e2⟩ := hq4.row.last
                injection e1 with e1
                injection e1 with e1
                injection e1 with e3 e4
                subst e3; subst e4
                rwa [nums_len] at e2
              have hq5 := hq4.turn (s5' := .slice (some ⟨g5, o5, none⟩) K.length cap5) (M' := nums K) (by have := hq4.row; rw [← nums_len K] at this ⊢; exact this.cut) rfl
              have HP5 := Lib.hid hq5
              have HLN := Lib.hid (lenI_any W0 g _ _ _ hq5.dq)
              rw [nums_len] at HLN
              clear hp4 hq4 hf4 hq5 c0 c1
              go_wp2_with fail
              refine HLN.out.mono ?_
              rintro e w6 ⟨rfl, rfl⟩
              go_wp2_with fail
              go_roundg (d.length - (i + 1))
              case measure => omega
              case rel => exact ⟨i + 1, v4, K, by go_num, by omega, by omega, by omega, HP5, HB4⟩
        · obtain rfl : P = 3 := by omega
          clear hpr hP0 hP2
          by_cases hne : L = []
          · subst hne
            as_aux_lemma =>
              have HLN := Lib.hid (lenI_any W0 g _ _ _ HP.out.dq)
              have HC := Lib.hid (stealI_none W0 g v wi HP.out.dq)
              obtain ⟨A5, cap5, hv5⟩ := HP.out.row.slice
              subst hv5
              go_wp2_with fail
              refine HPK.out.mono ?_
              rintro e w3 ⟨rfl, rfl⟩
              go_wp2_with fail
              refine HC.out.mono ?_
              rintro e w4 ⟨rfl, rfl⟩
              go_wp2_with fail
              refine HLN.out.mono ?_
              rintro e w6 ⟨rfl, rfl⟩
              go_wp2_with fail
              go_roundg (d.length - (i + 1))
              case measure => omega
              case rel => exact ⟨i + 1, v, [], by go_num, by omega, by omega, by simp, HP, HB⟩
          · as_aux_lemma =>
              obtain ⟨y, K, rfl⟩ := List.exists_cons_of_ne_nil hne
              rw [List.length_cons] at hLi
              have HPX : Hid (PD W0 wi g v _ (.int .i64 y :: nums K) (.int .i64 y :: nums K)) := HP
              clear HP
              have HC := Lib.hid (stealI_some W0 g v (nums K) y wi HPX.out.dq (by rw [nums_len]; omega))
              obtain ⟨g5, o5, cap5, hv5, hcap5, _⟩ := HPX.out.row.first
              rw [nums_len] at hv5 hcap5
              subst hv5
              have hyy : (y != y) = false := by simp
              have hltw : 0 < K.length + 1 := by omega
              have hgt0 : 0 < (K.length : Int) + 1 := by omega
              have hkc : (1 : Int) ≤ (cap5 : Int) := by omega
              have hkc1 : (1 : Int) ≤ (K.length : Int) + 1 := by omega
              have hkc2 : (K.length : Int) + 1 ≤ (cap5 : Int) := by omega
              go_wp2_with fail
              refine HPK.out.mono ?_
              rintro e w3 ⟨rfl, rfl⟩
              go_wp2_with fail
              refine HC.out.mono ?_
              rintro e w4 ⟨rfl, hp4⟩
              obtain ⟨⟨v4, hq4⟩, hf4⟩ := HPX.out.call hp4
              have HB4 : Hid (Below w.heap.size w w4) := Lib.hid (hf4 w HW0.out HB.out)
              have hcy : w4.cell? ⟨g5, o5, none⟩ = some (.int .i64 y) := by
                obtain ⟨g6, o6, cap6, e1, _, e2⟩ := hq4.row.first
                injection e1 with e1
                injection e1 with e1
                injection e1 with e3 e4
                subst e3; subst e4
                exact e2
              have hq5 := hq4.turn (s5' := .slice (some ⟨g5, if cap5 = 1 then o5 else o5 + 1, none⟩) K.length (cap5 - 1)) (M' := nums K) (by have := hq4.row; rw [← nums_len K] at this ⊢; exact this.tail) rfl
              have HP5 := Lib.hid hq5
              have HLN := Lib.hid (lenI_any W0 g _ _ _ hq5.dq)
              rw [nums_len] at HLN
              clear hp4 hq4 hf4 hq5 c0 c1
              by_cases hc1 : cap5 = 1
              · rw [if_pos hc1] at HP5
                subst hc1
                obtain rfl : K = [] := List.eq_nil_of_length_eq_zero (by omega)
                go_wp2_with fail
                refine HLN.out.mono ?_
                rintro e w6 ⟨rfl, rfl⟩
                go_wp2_with fail
                go_roundg (d.length - (i + 1))
                case measure => omega
                case rel => exact ⟨i + 1, v4, [], by go_num, by omega, by omega, by omega, HP5, HB4⟩
              · rw [if_neg hc1] at HP5
                go_wp2_with fail
                refine HLN.out.mono ?_
                rintro e w6 ⟨rfl, rfl⟩
                go_wp2_with fail
                go_roundg (d.length - (i + 1))
                case measure => omega
                case rel => exact ⟨i + 1, v4, K, by go_num, by omega, by omega, by omega, HP5, HB4⟩
    · have hltz : ¬ (i : Int) < (d.length : Int) := by omega
      go_wp2_with fail
      go_ret
      exact ⟨rfl, HB.out⟩
theorem plays_any (v1 : Value) (d : List Dd) (w : World) (hL : RowsAt 2 DdAt w v1 d) (hG : ∀ (i : Nat) (x : Dd), d[i]? = some x → DdG x) : Calls Try.prog 3 #[v1] w fun e w' => e = .returned (.bool true) ∧ Below w.heap.size w w' := by
  by_cases h : 500 < d.length
  · obtain ⟨A1, cap1, rfl, _⟩ := hL
    exact plays_long A1 _ cap1 w h
  · exact plays_main v1 d w hL hG (by omega)
end Go.Proofs.Ytpeaajimnggjpaa
