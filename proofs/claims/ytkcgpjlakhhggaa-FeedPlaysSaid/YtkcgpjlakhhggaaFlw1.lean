/- FeedPlays: what anything that is done with a feed comes to. -/
import Derived.Test.YtkcgpjlakhhggaaFlw0
import Derived.BigQuiet
namespace Go.Proofs.Ytkcgpjlakhhggaa
open Go.ChangeShapes Go.WideShapes Go.ChangeAt Go.RowKit
set_option linter.unusedVariables false

set_option maxHeartbeats 8000000 in
set_option maxRecDepth 100000 in
theorem plays_main (room : Nat) (v1 : Value) (d : List Dd) (w : World) (hL : RowsAt 3 DdAt w v1 d) (hG : ∀ (i : Nat) (x : Dd), d[i]? = some x → DdG x) (h1 : 1 ≤ room) (h2 : room ≤ 100) (hl : d.length ≤ 200) : Calls Try.prog 3 #[.int .i64 (room : Int), v1] w fun e w' => e = .returned (.bool true) ∧ Below w.heap.size w w' := by
  have en := neq_nil_nil
  have ee := eql_nil_nil
  have e6 := fun W => (neq_codes W).1
  have e4 := fun W => (neq_codes W).2
  have HU := Lib.hid (up_any w)
  have HN := Lib.hid (fun W => new_ok room W h1 h2)
  obtain ⟨A1, cap1, rfl, hc1, he1⟩ := hL
  have HE1 := Lib.hid he1
  have HGD := Lib.hid hG
  have a1 : ¬ (room : Int) < 1 := by omega
  have a2 : ¬ 100 < (room : Int) := by omega
  have haz : ¬ 200 < (d.length : Int) := by omega
  obtain ⟨W0, HW0⟩ : ∃ W0, Hid (W0 = w.heap.size) := ⟨_, Lib.hid rfl⟩
  obtain ⟨i2, hi2, hz20, hz21, hz22⟩ := info_parts Try.info2
  have HI2 := Lib.hid hi2
  have HZ20 := Lib.hid hz20
  have HZ21 := Lib.hid hz21
  have HZ22 := Lib.hid hz22
  obtain ⟨i3, hi3, hz30, hz31, hz32⟩ := info_parts Try.info3
  have HI3 := Lib.hid hi3
  have HZ30 := Lib.hid hz30
  have HZ31 := Lib.hid hz31
  have HZ32 := Lib.hid hz32
  clear hc1 he1 hG hi2 hz20 hz21 hz22 hi3 hz30 hz31 hz32
  go_enter Try.func3, Try.ntmps3
  go_wp2_with fail
  refine HU.out.mono ?_
  rintro e w1 ⟨rfl, hb1⟩
  have HB1 := Lib.hid hb1
  clear hb1
  go_wp2_with fail
  refine (HN.out w1).mono ?_
  rintro e w2 ⟨rfl, hF, hb2⟩
  have HB2 : Hid (Below w.heap.size w w2) := Lib.hid (HB1.out.trans (hb2.mono HB1.out.size))
  have hF' := hF.base (B' := W0) (by rw [HW0.out]; exact HB1.out.size)
  generalize w1.heap.size = g at hF'
  have HP2 : Hid (PG W0 w2 g room (.slice none 0 0) [] (.slice none 0 0) (.slice none 0 0) [] []) := Lib.hid ⟨hF', World.ownsRow_nil _ _ _ _, World.ownsRow_nil _ _ _ _, fun b hb => (by cases hb), fun b hb => (by cases hb)⟩
  have HT2 : Hid (Told room [] [] []) := Lib.hid ⟨rfl, fun f hf => (by cases hf)⟩
  clear hF hb2 hF'
  go_wp2_with fail
  go_loopg [10, 8, 9] d.length (fun kx s10 s8 s9 wr => ∃ (i : Nat) (all : List Int) (fr : List Nat) (rv : Value) (us : List (Value × Rd)), s10 = .int .i64 (i : Int) ∧ i ≤ d.length ∧ d.length - i ≤ kx ∧ all.length ≤ i ∧ fr.length ≤ 8 ∧ Hid (PG W0 wr g room rv us s8 s9 all fr) ∧ Hid (Told room us all fr) ∧ Hid (Below w.heap.size w wr))
  case atStart => exact ⟨0, [], [], _, [], rfl, Nat.zero_le _, by omega, by simp, by simp, HP2, HT2, HB2⟩
  case round =>
    clear HP2 HT2 HB2 HB1
    obtain ⟨i, all, fr, rv, us, hs10, hi, hkx, hal, hfr, HP, HT, HB⟩ := hrel
    subst hs10
    obtain ⟨wi, rfl⟩ : ∃ W : World, W = wr := ⟨_, rfl⟩
    by_cases hlt : i < d.length
    · have hltz : (i : Int) < (d.length : Int) := by omega
      have hx := List.getElem?_eq_getElem hlt
      obtain ⟨b, o, rfl, hbl, hc⟩ := HE1.out i _ hx
      obtain ⟨g0, g1, g2⟩ := HGD.out i _ hx
      have HCX : Hid (∀ W, Below w.heap.size w W → DdAt W b (o + i * 3) d[i]) := Lib.hid fun W hb => DdAt.keeps w W b _ _ hb hbl hc
      generalize d[i] = x at HCX g0 g1 g2
      obtain ⟨xw, xn, xr⟩ := x
      simp only at g0 g1 g2
      obtain ⟨c0, c1, c2⟩ := HCX.out wi HB.out
      simp only at c0 c1 c2
      have wi1 : IntKind.i64.wrap ((i : Int) + 1) = (i : Int) + 1 := by rw [IntKind.wrap_i64]; omega
      have HPK := Lib.hid (pick_any xw 4 wi g0 (by omega) (by omega))
      have hpr := pickF_in xw (n := 4) (by omega)
      generalize pickF xw 4 = P at HPK hpr
      clear hx hc hbl g0 g1 g2
      by_cases hP0 : P = 0 ∨ P = 1
      · have HAD := Lib.hid (add_any W0 g room rv us xn wi HP.out.feed (HT.out.fit hfr (by omega)) h1 h2)
        rcases hP0 with rfl | rfl
        · as_aux_lemma =>
          clear hpr
          go_wp2_with fail
          refine HPK.out.mono ?_
          rintro e w3 ⟨rfl, rfl⟩
          go_wp2_with fail
          refine HAD.out.mono ?_
          rintro e w4 ⟨rfl, us', hr4, hl4, hF4, hk4, ho4⟩
          have HP4 := Lib.hid (HP.out.call hF4 hk4 ho4)
          have HB4 : Hid (Below w.heap.size w w4) := Lib.hid (HP.out.frame HW0.out HB.out hk4)
          have HT4 := Lib.hid (HT.out.add h1 hr4)
          obtain ⟨c04, c14, c24⟩ := HCX.out w4 HB4.out
          obtain ⟨A8, cap8, hv8⟩ := slice_own HP4.out.row8
          subst hv8
          have HRA := Lib.hid (own_below HP4.out.row8 (below_box w4 (.cells #[.int .i64 xn] 2)))
          have HBN := Lib.hid (Blk.new w4 2 #[.int .i64 xn])
          have HBB : Hid (W0 ≤ (w4.alloc (.cells #[.int .i64 xn] 2)).heap.size) := Lib.hid (by have := HB4.out.size; have := HW0.out; simp; omega)
          clear hr4 hl4 hF4 hk4 ho4 c0 c1 c2
          go_wp2_with (at_builtin; refine wpList_append_own_at _ rfl _ _ 30 rfl W0 2 i2 (.int .i64 0) 1 8 Try.underlying30 HI2.out HZ20.out HZ21.out HZ22.out rfl (by decide) _ _ _ rfl HRA.out ⟨w4.heap.size, 0, none⟩ 1 1 [.int .i64 xn] rfl rfl (one_at' HBN.out) (int_one xn) ?c3 ?c4 HBB.out ?_)
          case c3 => unfold maxLen; omega
          case c4 => omega
          intro v' w5 hown hgrow hnn hloc
          obtain ⟨hp5, hb5⟩ := HP4.out.app8 hown hgrow (by simpa using hloc)
          have HP5 := Lib.hid hp5
          have HB5 : Hid (Below w.heap.size w w5) := Lib.hid (hb5 w HW0.out HB4.out)
          clear hown hgrow hnn hloc hp5 hb5
          go_wp2_with fail
          go_roundg (d.length - (i + 1))
          case measure => omega
          case rel => exact ⟨i + 1, all ++ [xn], fr, rv, us', by go_num, by omega, by omega, by simp; omega, hfr, HP5, HT4, HB5⟩
        · as_aux_lemma =>
          clear hpr
          go_wp2_with fail
          refine HPK.out.mono ?_
          rintro e w3 ⟨rfl, rfl⟩
          go_wp2_with fail
          refine HAD.out.mono ?_
          rintro e w4 ⟨rfl, us', hr4, hl4, hF4, hk4, ho4⟩
          have HP4 := Lib.hid (HP.out.call hF4 hk4 ho4)
          have HB4 : Hid (Below w.heap.size w w4) := Lib.hid (HP.out.frame HW0.out HB.out hk4)
          have HT4 := Lib.hid (HT.out.add h1 hr4)
          obtain ⟨c04, c14, c24⟩ := HCX.out w4 HB4.out
          obtain ⟨A8, cap8, hv8⟩ := slice_own HP4.out.row8
          subst hv8
          have HRA := Lib.hid (own_below HP4.out.row8 (below_box w4 (.cells #[.int .i64 xn] 2)))
          have HBN := Lib.hid (Blk.new w4 2 #[.int .i64 xn])
          have HBB : Hid (W0 ≤ (w4.alloc (.cells #[.int .i64 xn] 2)).heap.size) := Lib.hid (by have := HB4.out.size; have := HW0.out; simp; omega)
          clear hr4 hl4 hF4 hk4 ho4 c0 c1 c2
          go_wp2_with (at_builtin; refine wpList_append_own_at _ rfl _ _ 30 rfl W0 2 i2 (.int .i64 0) 1 8 Try.underlying30 HI2.out HZ20.out HZ21.out HZ22.out rfl (by decide) _ _ _ rfl HRA.out ⟨w4.heap.size, 0, none⟩ 1 1 [.int .i64 xn] rfl rfl (one_at' HBN.out) (int_one xn) ?c3b ?c4b HBB.out ?_)
          case c3b => unfold maxLen; omega
          case c4b => omega
          intro v' w5 hown hgrow hnn hloc
          obtain ⟨hp5, hb5⟩ := HP4.out.app8 hown hgrow (by simpa using hloc)
          have HP5 := Lib.hid hp5
          have HB5 : Hid (Below w.heap.size w w5) := Lib.hid (hb5 w HW0.out HB4.out)
          clear hown hgrow hnn hloc hp5 hb5
          go_wp2_with fail
          go_roundg (d.length - (i + 1))
          case measure => omega
          case rel => exact ⟨i + 1, all ++ [xn], fr, rv, us', by go_num, by omega, by omega, by simp; omega, hfr, HP5, HT4, HB5⟩
      · by_cases hP2 : P = 2
        · as_aux_lemma =>
          subst hP2
          clear hpr hP0
          have hul := HT.out.len
          by_cases h8 : fr.length = 8
          · have HC := Lib.hid (read_full W0 g room rv us wi HP.out.feed (by omega))
            obtain ⟨A9, cap9, hv9⟩ := slice_own HP.out.row9
            rw [h8] at hv9
            subst hv9
            clear hul
            go_wp2_with fail
            refine HPK.out.mono ?_
            rintro e w3 ⟨rfl, rfl⟩
            go_wp2_with fail
            refine HC.out.mono ?_
            rintro e w4 ⟨rfl, rfl⟩
            go_wp2_with fail
            go_roundg (d.length - (i + 1))
            case measure => omega
            case rel => exact ⟨i + 1, all, fr, rv, us, by go_num, by omega, by omega, by omega, hfr, HP, HT, HB⟩
          · have HC := Lib.hid (read_ok W0 g room rv us wi HP.out.feed (by omega))
            have HUL := Lib.hid hul
            clear hul
            have h8' : fr.length < 8 := by omega
            have h8z : ¬ (8 : Int) ≤ (fr.length : Int) := by omega
            go_wp2_with fail
            refine HPK.out.mono ?_
            rintro e w3 ⟨rfl, rfl⟩
            go_wp2_with fail
            refine HC.out.mono ?_
            rintro e w4 ⟨rfl, rv', hF4, hk4, ho4⟩
            rw [HUL.out]
            have HP4 := Lib.hid (HP.out.call hF4 hk4 ho4)
            have HB4 : Hid (Below w.heap.size w w4) := Lib.hid (HP.out.frame HW0.out HB.out hk4)
            have HT4 := Lib.hid (HT.out.more)
            obtain ⟨A8, cap8, hv8⟩ := slice_own HP4.out.row8
            subst hv8
            obtain ⟨A9, cap9, hv9⟩ := slice_own HP4.out.row9
            subst hv9
            have HRA := Lib.hid (own_below HP4.out.row9 (below_box w4 (.cells #[.int .i64 (all.length : Int)] 3)))
            have HBN := Lib.hid (Blk.new w4 3 #[.int .i64 (all.length : Int)])
            have HBB : Hid (W0 ≤ (w4.alloc (.cells #[.int .i64 (all.length : Int)] 3)).heap.size) := Lib.hid (by have := HB4.out.size; have := HW0.out; simp; omega)
            clear hF4 hk4 ho4
            go_wp2_with (at_builtin; refine wpList_append_own_at _ rfl _ _ 31 rfl W0 3 i3 (.int .i64 0) 1 8 Try.underlying31 HI3.out HZ30.out HZ31.out HZ32.out rfl (by decide) _ _ _ rfl HRA.out ⟨w4.heap.size, 0, none⟩ 1 1 [.int .i64 (all.length : Int)] rfl rfl (one_at' HBN.out) (int_one _) ?c5 ?c6 HBB.out ?_)
            case c5 => unfold maxLen; omega
            case c6 => omega
            intro v' w5 hown hgrow hnn hloc
            obtain ⟨hp5, hb5⟩ := HP4.out.app9 hown hgrow (by simpa using hloc)
            have HP5 := Lib.hid hp5
            have HB5 : Hid (Below w.heap.size w w5) := Lib.hid (hb5 w HW0.out HB4.out)
            clear hown hgrow hnn hloc hp5 hb5
            go_wp2_with fail
            go_roundg (d.length - (i + 1))
            case measure => omega
            case rel => exact ⟨i + 1, all, fr ++ [all.length], rv', us ++ [rd0], by go_num, by omega, by omega, by omega, by simp; omega, HP5, HT4, HB5⟩
        · as_aux_lemma =>
          have hP3 : P = 3 := by omega
          subst hP3
          clear hpr hP0 hP2
          have hul := HT.out.len
          by_cases hbad : xr < 0 ∨ (fr.length : Int) ≤ xr
          · have HC := Lib.hid (poll_bad W0 g room rv us wi xr HP.out.feed (by rw [hul]; exact hbad))
            obtain ⟨A9, cap9, hv9⟩ := slice_own HP.out.row9
            subst hv9
            clear hul
            by_cases hneg : xr < 0
            · clear hbad
              go_wp2_with fail
              refine HPK.out.mono ?_
              rintro e w3 ⟨rfl, rfl⟩
              go_wp2_with fail
              refine HC.out.mono ?_
              rintro e w4 ⟨rfl, rfl⟩
              go_wp2_with fail
              go_roundg (d.length - (i + 1))
              case measure => omega
              case rel => exact ⟨i + 1, all, fr, rv, us, by go_num, by omega, by omega, by omega, hfr, HP, HT, HB⟩
            · have hge : (fr.length : Int) ≤ xr := by omega
              clear hbad
              go_wp2_with fail
              refine HPK.out.mono ?_
              rintro e w3 ⟨rfl, rfl⟩
              go_wp2_with fail
              refine HC.out.mono ?_
              rintro e w4 ⟨rfl, rfl⟩
              go_wp2_with fail
              go_roundg (d.length - (i + 1))
              case measure => omega
              case rel => exact ⟨i + 1, all, fr, rv, us, by go_num, by omega, by omega, by omega, hfr, HP, HT, HB⟩
          · obtain ⟨k, rfl⟩ : ∃ k : Nat, xr = (k : Int) := ⟨xr.toNat, by omega⟩
            have hneg : ¬ (k : Int) < 0 := by omega
            have hkz : (k : Int) < (fr.length : Int) := by omega
            have hge : ¬ (fr.length : Int) ≤ (k : Int) := by omega
            clear hbad
            have hfk := List.getElem?_eq_getElem (show k < fr.length by omega)
            generalize fr[k] = f at hfk
            have HFK := Lib.hid hfk
            obtain ⟨v, huk⟩ := HT.out.one hfk
            have hfn := HT.out.2 f (List.mem_of_getElem? hfk)
            have HC := Lib.hid (poll_ok W0 g room rv us wi k _ HP.out.feed huk (by omega))
            obtain ⟨g9, cap9, rfl⟩ : ∃ g9 cap9, u9 = .slice (some ⟨g9, 0, none⟩) fr.length cap9 := by
              rcases HP.out.row9.2 with ⟨_, h0⟩ | ⟨g9, cap9, cur, h, _⟩
              · omega
              · exact ⟨g9, cap9, h⟩
            obtain ⟨b', hb'⟩ : ∃ b', b' = beg room all.length f := ⟨_, rfl⟩
            have hbin := beg_in (room := room) hfn
            rw [← hb'] at hbin
            have hbd : (room < all.length - f ∧ b' = all.length - room) ∨ (¬ room < all.length - f ∧ b' = f) := by
              rw [hb']
              unfold beg
              split
              · exact .inl ⟨by assumption, rfl⟩
              · exact .inr ⟨by assumption, rfl⟩
            have HKE : Hid ((rdOf room all f).kept = all.drop b') := Lib.hid (by rw [hb']; rfl)
            obtain ⟨lo, hlo⟩ : ∃ lo, lo = (rdOf room all f).lost := ⟨_, rfl⟩
            have hlo' : lo = b' - f := by rw [hlo, hb']; rfl
            have HLO := Lib.hid hlo
            obtain ⟨D, hD⟩ : ∃ D : Int, D = (all.length : Int) - (f : Int) := ⟨_, rfl⟩
            have wD : IntKind.i64.wrap ((all.length : Int) - (f : Int)) = D := by rw [IntKind.wrap_i64]; omega
            clear hul hfk huk hb' hlo
            go_wp2_with fail
            refine HPK.out.mono ?_
            rintro e w3 ⟨rfl, rfl⟩
            go_wp2_with fail
            refine HC.out.mono ?_
            rintro e w4 ⟨rfl, hL4, hF4, hk4, ho4⟩
            simp only at hL4
            rw [HKE.out] at hL4
            rw [← HLO.out]
            have HLK := Lib.hid hL4
            obtain ⟨A4, cap4, hv4, _⟩ := hL4
            rw [List.length_drop] at hv4
            subst hv4
            have HP4 := Lib.hid (HP.out.call hF4 hk4 ho4)
            have HB4 : Hid (Below w.heap.size w w4) := Lib.hid (HP.out.frame HW0.out HB.out hk4)
            have HT4 := Lib.hid (HT.out.poll (i := k))
            obtain ⟨c94, f94⟩ := HP4.out.cell9 HFK.out
            clear hF4 hk4 ho4 c0 c1 c2
            rcases hbd with ⟨hr1, hr2⟩ | ⟨hr1, hr2⟩
            · as_aux_lemma =>
              have hDz : (room : Int) < D := by omega
              obtain ⟨g8, cap8, rfl⟩ : ∃ g8 cap8, u8 = .slice (some ⟨g8, 0, none⟩) all.length cap8 := by
                rcases HP4.out.row8.2 with ⟨_, h0⟩ | ⟨g8, cap8, cur, h, _⟩
                · omega
                · exact ⟨g8, cap8, h⟩
              have wb : IntKind.i64.wrap ((all.length : Int) - (room : Int)) = (b' : Int) := by rw [IntKind.wrap_i64]; omega
              have wl : IntKind.i64.wrap ((b' : Int) - (f : Int)) = (lo : Int) := by rw [IntKind.wrap_i64]; omega
              have hble : (b' : Int) ≤ (all.length : Int) := by omega
              clear hr1 hr2 hlo' hD
              have HA := Lib.hid (list_from HP4.out.row8 (b := b') (by omega) _ rfl)
              obtain ⟨A, hA⟩ : ∃ A, (if cap8 = b' then some (⟨g8, 0, none⟩ : Addr) else some ⟨g8, b', none⟩) = A := ⟨_, rfl⟩
              rw [hA] at HA
              have HNU := Lib.hid (nums_same _ _ (all.drop b') w4 HLK.out HA.out (by rw [List.length_drop]; omega))
              go_wp2_with fail
              refine HNU.out.mono ?_
              rintro e w5 ⟨rfl, hb5⟩
              have HP5 := Lib.hid (HP4.out.below hb5)
              have HB5 : Hid (Below w.heap.size w w5) := Lib.hid (HB4.out.trans (hb5.mono HB4.out.size))
              obtain ⟨c95, f95⟩ := HP5.out.cell9 HFK.out
              obtain ⟨hp6, hb6⟩ := HP5.out.set9 (x := all.length) (i := k) (by have := (List.getElem?_eq_some_iff.1 HFK.out).1; exact this)
              have HP6 := Lib.hid hp6
              have HB6 := Lib.hid (hb6 w HW0.out HB5.out)
              clear hb5 hp6 hb6
              go_wp2_with fail
              go_roundg (d.length - (i + 1))
              case measure => omega
              case rel => exact ⟨i + 1, all, fr.set k all.length, rv, us.set k rd0, by go_num, by omega, by omega, by omega, by simp; omega, HP6, HT4, HB6⟩
            · have hDz : ¬ (room : Int) < D := by omega
              subst hr2
              obtain rfl : lo = 0 := by omega
              have hble : (b' : Int) ≤ (all.length : Int) := by omega
              rcases HP4.out.row8.2 with ⟨h8, h0⟩ | ⟨g8, cap8, cur, h8, _⟩
              · as_aux_lemma =>
                subst h8
                obtain rfl : all = [] := List.eq_nil_of_length_eq_zero h0
                simp only [List.length_nil] at *
                obtain rfl : b' = 0 := by omega
                clear hr1 hlo' hD h0
                have HNU := Lib.hid (nums_same (.slice A4 0 cap4) (.slice none 0 0) [] w4 HLK.out (RowsAt.nil w4) (by simp))
                go_wp2_with fail
                refine HNU.out.mono ?_
                rintro e w5 ⟨rfl, hb5⟩
                have HP5 := Lib.hid (HP4.out.below hb5)
                have HB5 : Hid (Below w.heap.size w w5) := Lib.hid (HB4.out.trans (hb5.mono HB4.out.size))
                obtain ⟨c95, f95⟩ := HP5.out.cell9 HFK.out
                obtain ⟨hp6, hb6⟩ := HP5.out.set9 (x := 0) (i := k) (by have := (List.getElem?_eq_some_iff.1 HFK.out).1; exact this)
                have HP6 := Lib.hid hp6
                have HB6 := Lib.hid (hb6 w HW0.out HB5.out)
                clear hb5 hp6 hb6
                go_wp2_with fail
                go_roundg (d.length - (i + 1))
                case measure => omega
                case rel => exact ⟨i + 1, [], fr.set k 0, rv, us.set k rd0, by go_num, by omega, by omega, by simp, by simp; omega, HP6, HT4, HB6⟩
              · as_aux_lemma =>
                subst h8
                clear hr1 hlo' hD
                have HA := Lib.hid (list_from HP4.out.row8 (b := b') (by omega) _ rfl)
                obtain ⟨A, hA⟩ : ∃ A, (if cap8 = b' then some (⟨g8, 0, none⟩ : Addr) else some ⟨g8, b', none⟩) = A := ⟨_, rfl⟩
                rw [hA] at HA
                have HNU := Lib.hid (nums_same _ _ (all.drop b') w4 HLK.out HA.out (by rw [List.length_drop]; omega))
                go_wp2_with fail
                refine HNU.out.mono ?_
                rintro e w5 ⟨rfl, hb5⟩
                have HP5 := Lib.hid (HP4.out.below hb5)
                have HB5 : Hid (Below w.heap.size w w5) := Lib.hid (HB4.out.trans (hb5.mono HB4.out.size))
                obtain ⟨c95, f95⟩ := HP5.out.cell9 HFK.out
                obtain ⟨hp6, hb6⟩ := HP5.out.set9 (x := all.length) (i := k) (by have := (List.getElem?_eq_some_iff.1 HFK.out).1; exact this)
                have HP6 := Lib.hid hp6
                have HB6 := Lib.hid (hb6 w HW0.out HB5.out)
                clear hb5 hp6 hb6
                go_wp2_with fail
                go_roundg (d.length - (i + 1))
                case measure => omega
                case rel => exact ⟨i + 1, all, fr.set k all.length, rv, us.set k rd0, by go_num, by omega, by omega, by omega, by simp; omega, HP6, HT4, HB6⟩
    · have hltz : ¬ (i : Int) < (d.length : Int) := by omega
      obtain rfl : i = d.length := by omega
      go_wp2_with fail
      go_ret
      exact ⟨rfl, HB.out⟩
theorem plays_any (room : Int) (v1 : Value) (d : List Dd) (w : World) (hL : RowsAt 3 DdAt w v1 d) (hG : ∀ (i : Nat) (x : Dd), d[i]? = some x → DdG x) : Calls Try.prog 3 #[.int .i64 room, v1] w fun e w' => e = .returned (.bool true) ∧ Below w.heap.size w w' := by
  by_cases hr : room < 1 ∨ 100 < room
  · exact plays_bad room v1 w hr
  · obtain ⟨n, rfl⟩ : ∃ n : Nat, room = (n : Int) := ⟨room.toNat, by omega⟩
    by_cases hl : 200 < d.length
    · obtain ⟨A1, cap1, rfl, _⟩ := hL
      exact plays_long n A1 _ cap1 w (by omega) (by omega) hl
    · exact plays_main n v1 d w hL hG (by omega) (by omega) (by omega)
end Go.Proofs.Ytkcgpjlakhhggaa
