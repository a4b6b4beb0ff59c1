/- The contract of the document's Reader.Read: what binds at least so strongly; by induction on the number of steps. -/
import Derived.Test.YtoiflidlnajbdaaGreatDoorQone2
namespace Go.Proofs.YtoiflidlnajbdaaGreatDoor
open Go.ChangeShapes Go.WideShapes Go.ChangeAt Go.RowKit
set_option linter.unusedVariables false

theorem read6_any (ts : List Tk) (g n : Nat) (vin : Value) (hF : QOne ts g vin n) : QReads ts g vin n 6 := by
  intro k out R v x w hR hk ho hT hS hx
  subst hx
  have H := Lib.hid (hF k out R v w hR hk ho hT hS)
  clear hF hR hT hS
  go_enter Tryz.func22, Tryz.ntmps22
  go_wp2_with fail
  refine H.out.mono ?_
  intro e w1 hp
  obtain rfl := hp.ret
  have HP := Lib.hid hp
  clear hp
  go_wp2_with fail
  first | go_end0 | (simp only [Exit.inBlock, Exit.then]; refine bodyPost_ret (results_none rfl _ _ _) rfl ?_) | refine bodyPost_ret (results_none rfl _ _ _) rfl ?_
  exact HP.out

/-- what holds at the head of Read's loop -/
def QRel (ts : List Tk) (g : Nat) (vin : Value) (lv : Nat) (R : Res) (k0 : Nat) (o0 : List Tk) (w : World) (N gk : Nat) (wr : World) : Prop :=
  (∃ (k : Nat) (o : List Tk) (v1 : Value), gk ≤ N ∧ rd ts gk (10 + lv) k o = some R ∧ k ≤ ts.length ∧ o.length ≤ k ∧ o.length + k0 ≤ o0.length + k ∧ Below g w wr ∧ QSt g vin wr k v1 o false) ∨
  (∃ (k : Nat) (o : List Tk) (v1 : Value), R = .bad k ∧ o.length + k0 ≤ o0.length + k ∧ Below g w wr ∧ QSt g vin wr k v1 o true)
set_option maxHeartbeats 4000000 in
set_option maxRecDepth 100000 in
theorem readrow_any (ts : List Tk) (g n lv : Nat) (vin : Value) (hl : ts.length ≤ 1000) (h1 : 1 ≤ lv) (h6 : lv < 6) (h3 : lv ≠ 3) (hF : ∀ m, m ≤ n → QReads ts g vin m (lv + 1)) : QReads ts g vin (n + 1) lv := by
  intro k out R v x w hR hk ho hT hS hx
  subst hx
  have HF := Lib.hid hF
  have HT := Lib.hid hT
  have HS := Lib.hid hS
  rw [rd_row n lv out h6 h3] at hR
  obtain ⟨R1, hR1⟩ : ∃ R1, rd ts n (lv + 1) k out = some R1 := by
    rcases thenR_some hR with ⟨k', a, c⟩ | ⟨k', o', a, c⟩
    · exact ⟨_, a⟩
    · exact ⟨_, a⟩
  have HR1 := Lib.hid hR1
  have HFI := Lib.hid (rd_fits ts n (lv + 1) k out R1 hR1 hk)
  rw [hR1] at hR
  have HR := Lib.hid hR
  have n6 : ((lv : Int) == 6) = false := by simp; omega
  have n3 : ((lv : Int) == 3) = false := by simp; omega
  clear hF hT hS hR hR1 h3
  go_enter Tryz.func22, Tryz.ntmps22
  go_wp2_with fail
  refine (HF.out n (Nat.le_refl _) k out R1 v _ w HR1.out hk ho HT.out HS.out (by simp)).mono ?_
  rintro e w1 ⟨rfl, hb1, hm⟩
  have hrel : QRel ts g vin lv R k out w n n w1 := by
    cases R1 with
    | ok k' o' =>
      obtain ⟨v', hs⟩ := hm
      have hf := HFI.out
      unfold Fits at hf
      exact .inl ⟨k', o', v', Nat.le_refl _, HR.out, by omega, by omega, by omega, hb1, hs⟩
    | bad k' =>
      obtain ⟨v', o', hs, hlen⟩ := hm
      have hr := HR.out
      simp only [thenR] at hr
      injection hr with hr
      exact .inr ⟨k', o', v', hr.symm, hlen, hb1, hs⟩
  have HREL := Lib.hid hrel
  clear hrel hm hb1
  go_wp2_with fail
  go_loopg [4] n (fun gk t wr => QRel ts g vin lv R k out w n gk wr)
  case atStart => exact HREL.out
  case round =>
    clear HREL HFI HR1 HR
    rcases hrel with ⟨k1, o1, v1, hgk, hr, hk1, ho1, hlen, hB, hS1⟩ | ⟨k1, o1, v1, rfl, hlen, hB, hS1⟩
    · obtain ⟨m, rfl⟩ : ∃ m, gk = m + 1 := by
        cases gk with
        | zero => rw [rd] at hr; cases hr
        | succ m => exact ⟨m, rfl⟩
      have HB := Lib.hid hB
      have HS1 := Lib.hid hS1
      have HT1 := Lib.hid (HT.out.below hB)
      by_cases hc : lvl (knd ts k1) = lv
      · have hlt : k1 < ts.length := lvl_lt (ts := ts) (k := k1) (by omega)
        rw [rd_rest m lv o1 h1 hc] at hr
        obtain ⟨R2, hR2⟩ : ∃ R2, rd ts m (lv + 1) (k1 + 1) o1 = some R2 := by
          rcases thenR_some hr with ⟨k', a, c⟩ | ⟨k', o', a, c⟩
          · exact ⟨_, a⟩
          · exact ⟨_, a⟩
        have HR2 := Lib.hid hR2
        have HFI := Lib.hid (rd_fits ts m (lv + 1) (k1 + 1) o1 R2 hR2 hlt)
        rw [hR2] at hr
        have HR := Lib.hid hr
        have HC := Lib.hid hc
        obtain ⟨⟨c0, c1, c2, c3⟩, f0, f1, f2, f3⟩ := hS1.blk.facts4
        clear hr hc hR2 hB hS1
        go_wp2_with fail
        refine (see_any ts g k1 vin v1 _ o1 HT1.out HS1.out hk1 (by omega)).mono ?_
        rintro e w2 ⟨rfl, a, rfl⟩
        go_wp2_with fail
        refine (level_any _ _).mono ?_
        rintro e w2 ⟨rfl, rfl⟩
        rw [HC.out]
        go_wp2_with fail
        refine (see_any ts g k1 vin v1 _ o1 (HT1.out.drewN a) (HS1.out.drewN a) hk1 (by omega)).mono ?_
        rintro e w2 ⟨rfl, c, rfl⟩
        go_wp2_with fail
        have hb : Below g wr (wr.setCell ⟨g, 1, none⟩ (.int .i64 ((k1 : Int) + 1))) := (Below.refl _ _).setCell (by simp) _
        have HT2 := Lib.hid ((HT1.out.below hb).drewN (a + c))
        have HS2 := Lib.hid ((HS1.out.at_ (k1 + 1)).drewN (a + c))
        have HB2 := Lib.hid (below_drewN (HB.out.trans hb) (a + c))
        clear hb
        refine (HF.out m (by omega) (k1 + 1) o1 R2 v1 _ _ HR2.out hlt (by omega) HT2.out HS2.out (by simp)).mono ?_
        rintro e w3 ⟨rfl, hb3, hm⟩
        have HB3 := Lib.hid (HB2.out.trans hb3)
        clear hb3
        cases R2 with
        | ok k' o' =>
          obtain ⟨v', hs⟩ := hm
          have HS3 := Lib.hid hs
          have hf := HFI.out
          unfold Fits at hf
          clear hs
          go_wp2_with fail
          refine (put_any g k' _ 0 vin v' o' false _ HS3.out (by omega)).mono ?_
          rintro e w4 ⟨rfl, hb4, v4, hs4⟩
          have HB4 := Lib.hid (HB3.out.trans hb4)
          have HS4 := Lib.hid hs4
          clear hb4 hs4
          go_wp2_with fail
          go_roundg m
          case measure => omega
          case rel => exact .inl ⟨k', o' ++ [(knd ts k1, 0, 0)], v4, by omega, HR.out, by omega, by simp only [List.length_append, List.length_cons, List.length_nil]; omega, by simp only [List.length_append, List.length_cons, List.length_nil]; omega, HB4.out, HS4.out⟩
        | bad k' =>
          obtain ⟨v', o', hs, hlen'⟩ := hm
          have HS3 := Lib.hid hs
          have hf := HFI.out
          unfold Fits at hf
          have hr' := HR.out
          simp only [thenR] at hr'
          injection hr' with hr'
          subst hr'
          clear hs
          go_wp2_with fail
          refine (put_any g k' _ 0 vin v' o' true _ HS3.out (by omega)).mono ?_
          rintro e w4 ⟨rfl, hb4, v4, hs4⟩
          have HB4 := Lib.hid (HB3.out.trans hb4)
          have HS4 := Lib.hid hs4
          clear hb4 hs4
          go_wp2_with fail
          go_roundg m
          case measure => omega
          case rel => exact .inr ⟨k', o' ++ [(knd ts k1, 0, 0)], v4, rfl, by simp only [List.length_append, List.length_cons, List.length_nil]; omega, HB4.out, HS4.out⟩
      · rw [rd_done m lv o1 hc] at hr
        injection hr with hr
        subst hr
        have q1 : (lvl (knd ts k1) == lv) = false := by simpa using hc
        have q2 : (((lvl (knd ts k1) : Nat) : Int) == (lv : Int)) = false := by simp; omega
        have q3 : decide (lvl (knd ts k1) = lv) = false := by simpa using hc
        clear hc hB hS1
        go_wp2_with fail
        refine (see_any ts g k1 vin v1 _ o1 HT1.out HS1.out hk1 (by omega)).mono ?_
        rintro e w2 ⟨rfl, a, rfl⟩
        go_wp2_with fail
        refine (level_any _ _).mono ?_
        rintro e w2 ⟨rfl, rfl⟩
        generalize lvl (knd ts k1) = y at *
        go_wp2_with fail
        first | go_end0 | (simp only [Exit.inBlock, Exit.then]; refine bodyPost_ret (results_none rfl _ _ _) rfl ?_) | refine bodyPost_ret (results_none rfl _ _ _) rfl ?_
        exact ⟨rfl, below_drewN HB.out a, v1, HS1.out.drewN a⟩
    · have HB := Lib.hid hB
      have HS1 := Lib.hid hS1
      have q2 : ((0 : Int) == (lv : Int)) = false := by simp; omega
      have q3 : ((lv : Int) == 0) = false := by simp; omega
      have q4 : decide (0 = lv) = false := by simp; omega
      have q5 : decide (lv = 0) = false := by simp; omega
      have q6 : (0 == lv) = false := by simp; omega
      clear hB hS1
      go_wp2_with fail
      refine (see_bad g k1 vin v1 _ HS1.out.blk).mono ?_
      rintro e w2 ⟨rfl, a, rfl⟩
      go_wp2_with fail
      refine (level_any _ _).mono ?_
      rintro e w2 ⟨rfl, rfl⟩
      rw [lvl_zero]
      go_wp2_with fail
      first | go_end0 | (simp only [Exit.inBlock, Exit.then]; refine bodyPost_ret (results_none rfl _ _ _) rfl ?_) | refine bodyPost_ret (results_none rfl _ _ _) rfl ?_
      exact ⟨rfl, below_drewN HB.out a, v1, o1, HS1.out.drewN a, hlen⟩
end Go.Proofs.YtoiflidlnajbdaaGreatDoor
