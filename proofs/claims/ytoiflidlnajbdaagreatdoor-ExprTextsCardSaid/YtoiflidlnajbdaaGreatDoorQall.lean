/- The contract of the document's Reader.Read at comparisons, and at every level. -/
import Derived.Test.YtoiflidlnajbdaaGreatDoorQread
namespace Go.Proofs.YtoiflidlnajbdaaGreatDoor
open Go.ChangeShapes Go.WideShapes Go.ChangeAt Go.RowKit
set_option linter.unusedVariables false

set_option maxHeartbeats 2000000 in
set_option maxRecDepth 100000 in
theorem read3_not (ts : List Tk) (g n k : Nat) (vin v : Value) (out : List Tk) (R : Res) (w : World) (hl : ts.length ≤ 1000) (hF : QReads ts g vin n 3) (hk : k ≤ ts.length) (ho : out.length ≤ k) (hT : ToksU g w vin ts) (hS : QSt g vin w k v out false)
    (hc : knd ts k = 14) (hR : thenR (rd ts n 3 (k + 1) out) (fun k' o => some (.ok k' (o ++ [(14, 0, 0)]))) = some R) : Calls Tryz.prog 22 #[.pointer (some ⟨g, 0, none⟩), .int .i64 3] w (QPost g vin k out R w) := by
  have hlt : k < ts.length := knd_lt (by omega)
  obtain ⟨R1, hR1, rfl⟩ := thenR_op hR
  have HFI := Lib.hid (rd_fits ts n 3 (k + 1) out R1 hR1 hlt)
  have HF := Lib.hid hF
  have HT := Lib.hid hT
  have HS := Lib.hid hS
  have HC := Lib.hid hc
  have HR1 := Lib.hid hR1
  obtain ⟨⟨c0, c1, c2, c3⟩, f0, f1, f2, f3⟩ := hS.blk.facts4
  clear hF hT hS hc hR hR1
  go_enter Tryz.func22, Tryz.ntmps22
  go_wp2_with fail
  refine (see_any ts g k vin v _ out HT.out HS.out hk (by omega)).mono ?_
  rintro e w1 ⟨rfl, a, rfl⟩
  rw [HC.out]
  go_wp2_with fail
  have hb : Below g w (w.setCell ⟨g, 1, none⟩ (.int .i64 ((k : Int) + 1))) := (Below.refl _ _).setCell (by simp) _
  have HT1 := Lib.hid ((HT.out.below hb).drewN a)
  have HS1 := Lib.hid ((HS.out.at_ (k + 1)).drewN a)
  have HB := Lib.hid (below_drewN hb a)
  clear hb
  refine (HF.out (k + 1) out R1 v 3 _ HR1.out hlt (by omega) HT1.out HS1.out rfl).mono ?_
  rintro e w2 ⟨rfl, hb2, hm⟩
  have HB2 := Lib.hid (HB.out.trans hb2)
  clear hb2
  cases R1 with
  | ok k' o' =>
    obtain ⟨v', hs⟩ := hm
    have HS2 := Lib.hid hs
    clear hs
    go_wp2_with fail
    refine (put_any g k' 14 0 vin v' o' false _ HS2.out (by have := HFI.out; unfold Fits at this; omega)).mono ?_
    rintro e w3 ⟨rfl, hb3, v3, hs3⟩
    have HB3 := Lib.hid (HB2.out.trans hb3)
    have HS3 := Lib.hid hs3
    clear hb3 hs3
    go_wp2_with fail
    first | go_end0 | (simp only [Exit.inBlock, Exit.then]; refine bodyPost_ret (results_none rfl _ _ _) rfl ?_) | refine bodyPost_ret (results_none rfl _ _ _) rfl ?_
    exact ⟨rfl, HB3.out, v3, HS3.out⟩
  | bad k' =>
    obtain ⟨v', o', hs, hlen⟩ := hm
    have HS2 := Lib.hid hs
    clear hs
    go_wp2_with fail
    refine (put_any g k' 14 0 vin v' o' true _ HS2.out (by have := HFI.out; unfold Fits at this; omega)).mono ?_
    rintro e w3 ⟨rfl, hb3, v3, hs3⟩
    have HB3 := Lib.hid (HB2.out.trans hb3)
    have HS3 := Lib.hid hs3
    clear hb3 hs3
    go_wp2_with fail
    first | go_end0 | (simp only [Exit.inBlock, Exit.then]; refine bodyPost_ret (results_none rfl _ _ _) rfl ?_) | refine bodyPost_ret (results_none rfl _ _ _) rfl ?_
    exact ⟨rfl, HB3.out, v3, _, HS3.out, by simp only [List.length_append, List.length_cons, List.length_nil]; omega⟩
/-- what holds at the head of the loop, at comparisons: the first sum is read -/
def QRel3 (ts : List Tk) (g : Nat) (vin : Value) (R1 : Res) (k0 : Nat) (o0 : List Tk) (w : World) (wr : World) : Prop :=
  match R1 with
  | .ok k o => ∃ v1, Below g w wr ∧ QSt g vin wr k v1 o false
  | .bad k => ∃ v1 o, Below g w wr ∧ QSt g vin wr k v1 o true ∧ o.length + k0 ≤ o0.length + k
set_option maxHeartbeats 4000000 in
set_option maxRecDepth 100000 in
theorem read3_cmp (ts : List Tk) (g n k : Nat) (vin v : Value) (out : List Tk) (R : Res) (w : World) (hl : ts.length ≤ 1000) (hF : QReads ts g vin n 4) (hk : k ≤ ts.length) (ho : out.length ≤ k) (hT : ToksU g w vin ts) (hS : QSt g vin w k v out false)
    (hc : knd ts k ≠ 14) (hR : thenR (rd ts n 4 k out) (fun k' o => if lvl (knd ts k') = 3 then thenR (rd ts n 4 (k' + 1) o) fun k'' o' => some (.ok k'' (o' ++ [(knd ts k', 0, 0)])) else some (.ok k' o)) = some R) : Calls Tryz.prog 22 #[.pointer (some ⟨g, 0, none⟩), .int .i64 3] w (QPost g vin k out R w) := by
  have HF := Lib.hid hF
  have HT := Lib.hid hT
  have HS := Lib.hid hS
  obtain ⟨R1, hR1⟩ : ∃ R1, rd ts n 4 k out = some R1 := by
    rcases thenR_some hR with ⟨k', a, c⟩ | ⟨k', o', a, c⟩
    · exact ⟨_, a⟩
    · exact ⟨_, a⟩
  have HR1 := Lib.hid hR1
  have HFI := Lib.hid (rd_fits ts n 4 k out R1 hR1 hk)
  rw [hR1] at hR
  have HR := Lib.hid hR
  have n14 : (knd ts k == 14) = false := by simpa using hc
  clear hF hT hS hR hR1 hc
  go_enter Tryz.func22, Tryz.ntmps22
  go_wp2_with fail
  refine (see_any ts g k vin v _ out HT.out HS.out hk (by omega)).mono ?_
  rintro e w1 ⟨rfl, a, rfl⟩
  generalize knd ts k = x0 at *
  go_wp2_with fail
  refine (HF.out k out R1 v _ _ HR1.out hk ho (HT.out.drewN a) (HS.out.drewN a) rfl).mono ?_
  rintro e w1 ⟨rfl, hb1, hm⟩
  have HREL : Hid (QRel3 ts g vin R1 k out w w1) := Lib.hid (by
    cases R1 with
    | ok k' o' => obtain ⟨v', hs⟩ := hm; exact ⟨v', (below_drewN (Below.refl g w) a).trans hb1, hs⟩
    | bad k' => obtain ⟨v', o', hs, hlen⟩ := hm; exact ⟨v', o', (below_drewN (Below.refl g w) a).trans hb1, hs, hlen⟩)
  clear hm hb1 n14
  go_wp2_with fail
  go_loopg [4] 1 (fun gk t wr => QRel3 ts g vin R1 k out w wr)
  case atStart => exact HREL.out
  case round =>
    clear HREL HR1
    cases R1 with
    | bad k' =>
      obtain ⟨v1, o1, hB, hS1, hlen⟩ := hrel
      have hr := HR.out
      simp only [thenR] at hr
      injection hr with hr
      subst hr
      have HB := Lib.hid hB
      have HS1 := Lib.hid hS1
      clear hB hS1
      go_wp2_with fail
      refine (see_bad g k' vin v1 _ HS1.out.blk).mono ?_
      rintro e w2 ⟨rfl, a, rfl⟩
      go_wp2_with fail
      refine (level_any _ _).mono ?_
      rintro e w2 ⟨rfl, rfl⟩
      rw [lvl_zero]
      go_wp2_with fail
      first | go_end0 | (simp only [Exit.inBlock, Exit.then]; refine bodyPost_ret (results_none rfl _ _ _) rfl ?_) | refine bodyPost_ret (results_none rfl _ _ _) rfl ?_
      exact ⟨rfl, below_drewN HB.out a, v1, o1, HS1.out.drewN a, hlen⟩
    | ok k1 o1 =>
      obtain ⟨v1, hB, hS1⟩ := hrel
      have hf := HFI.out
      unfold Fits at hf
      have HB := Lib.hid hB
      have HS1 := Lib.hid hS1
      have HT1 := Lib.hid (HT.out.below hB)
      by_cases hc : lvl (knd ts k1) = 3
      · have hlt : k1 < ts.length := lvl_lt (ts := ts) (k := k1) (by omega)
        have hr := HR.out
        simp only [thenR] at hr
        rw [if_pos hc] at hr
        obtain ⟨R2, hR2, hRR⟩ := thenR_op hr
        subst hRR
        have HR2 := Lib.hid hR2
        have HFI2 := Lib.hid (rd_fits ts n 4 (k1 + 1) o1 R2 hR2 hlt)
        have HC := Lib.hid hc
        obtain ⟨⟨c0, c1, c2, c3⟩, f0, f1, f2, f3⟩ := hS1.blk.facts4
        clear hr hc hR2 hB hS1
        go_wp2_with fail
        refine (see_any ts g k1 vin v1 _ o1 HT1.out HS1.out (by omega) (by omega)).mono ?_
        rintro e w2 ⟨rfl, a, rfl⟩
        go_wp2_with fail
        refine (level_any _ _).mono ?_
        rintro e w2 ⟨rfl, rfl⟩
        rw [HC.out]
        go_wp2_with fail
        refine (see_any ts g k1 vin v1 _ o1 (HT1.out.drewN a) (HS1.out.drewN a) (by omega) (by omega)).mono ?_
        rintro e w2 ⟨rfl, c, rfl⟩
        go_wp2_with fail
        have hb : Below g wr (wr.setCell ⟨g, 1, none⟩ (.int .i64 ((k1 : Int) + 1))) := (Below.refl _ _).setCell (by simp) _
        have HT2 := Lib.hid ((HT1.out.below hb).drewN (a + c))
        have HS2 := Lib.hid ((HS1.out.at_ (k1 + 1)).drewN (a + c))
        have HB2 := Lib.hid (below_drewN (HB.out.trans hb) (a + c))
        clear hb
        refine (HF.out (k1 + 1) o1 R2 v1 _ _ HR2.out hlt (by omega) HT2.out HS2.out rfl).mono ?_
        rintro e w3 ⟨rfl, hb3, hm⟩
        have HB3 := Lib.hid (HB2.out.trans hb3)
        clear hb3
        cases R2 with
        | ok k' o' =>
          obtain ⟨v', hs⟩ := hm
          have HS3 := Lib.hid hs
          have hf2 := HFI2.out
          unfold Fits at hf2
          clear hs
          go_wp2_with fail
          refine (put_any g k' _ 0 vin v' o' false _ HS3.out (by omega)).mono ?_
          rintro e w4 ⟨rfl, hb4, v4, hs4⟩
          have HB4 := Lib.hid (HB3.out.trans hb4)
          have HS4 := Lib.hid hs4
          clear hb4 hs4
          go_wp2_with fail
          first | go_end0 | (simp only [Exit.inBlock, Exit.then]; refine bodyPost_ret (results_none rfl _ _ _) rfl ?_) | refine bodyPost_ret (results_none rfl _ _ _) rfl ?_
          exact ⟨rfl, HB4.out, v4, HS4.out⟩
        | bad k' =>
          obtain ⟨v', o', hs, hlen'⟩ := hm
          have HS3 := Lib.hid hs
          have hf2 := HFI2.out
          unfold Fits at hf2
          clear hs
          go_wp2_with fail
          refine (put_any g k' _ 0 vin v' o' true _ HS3.out (by omega)).mono ?_
          rintro e w4 ⟨rfl, hb4, v4, hs4⟩
          have HB4 := Lib.hid (HB3.out.trans hb4)
          have HS4 := Lib.hid hs4
          clear hb4 hs4
          go_wp2_with fail
          first | go_end0 | (simp only [Exit.inBlock, Exit.then]; refine bodyPost_ret (results_none rfl _ _ _) rfl ?_) | refine bodyPost_ret (results_none rfl _ _ _) rfl ?_
          exact ⟨rfl, HB4.out, v4, _, HS4.out, by simp only [List.length_append, List.length_cons, List.length_nil]; omega⟩
      · have hr := HR.out
        simp only [thenR] at hr
        rw [if_neg hc] at hr
        injection hr with hr
        subst hr
        have q1 : (lvl (knd ts k1) == 3) = false := by simpa using hc
        have q2 : (((lvl (knd ts k1) : Nat) : Int) == (3 : Int)) = false := by simp; omega
        have q3 : decide (lvl (knd ts k1) = 3) = false := by simpa using hc
        clear hc hB hS1
        go_wp2_with fail
        refine (see_any ts g k1 vin v1 _ o1 HT1.out HS1.out (by omega) (by omega)).mono ?_
        rintro e w2 ⟨rfl, a, rfl⟩
        go_wp2_with fail
        refine (level_any _ _).mono ?_
        rintro e w2 ⟨rfl, rfl⟩
        generalize lvl (knd ts k1) = y at *
        go_wp2_with fail
        first | go_end0 | (simp only [Exit.inBlock, Exit.then]; refine bodyPost_ret (results_none rfl _ _ _) rfl ?_) | refine bodyPost_ret (results_none rfl _ _ _) rfl ?_
        exact ⟨rfl, below_drewN HB.out a, v1, HS1.out.drewN a⟩
theorem read3_any (ts : List Tk) (g n : Nat) (vin : Value) (hl : ts.length ≤ 1000) (hF : QReads ts g vin n 3) (hF4 : QReads ts g vin n 4) : QReads ts g vin (n + 1) 3 := by
  intro k out R v x w hR hk ho hT hS hx
  subst hx
  by_cases hc : knd ts k = 14
  · rw [rd3_not n out hc] at hR
    exact read3_not ts g n k vin v out R w hl hF hk ho hT hS hc hR
  · rw [rd3_cmp n out hc] at hR
    exact read3_cmp ts g n k vin v out R w hl hF4 hk ho hT hS hc hR
structure QAll (ts : List Tk) (g : Nat) (vin : Value) (n : Nat) : Prop where
  one : QOne ts g vin n
  r1 : QReads ts g vin n 1
  r2 : QReads ts g vin n 2
  r3 : QReads ts g vin n 3
  r4 : QReads ts g vin n 4
  r5 : QReads ts g vin n 5
  r6 : QReads ts g vin n 6
theorem qreads_zero (ts : List Tk) (g : Nat) (vin : Value) (lv : Nat) : QReads ts g vin 0 lv := fun k out R v x w h => by rw [rd] at h; cases h
theorem qall (ts : List Tk) (g : Nat) (vin : Value) (hl : ts.length ≤ 1000) : ∀ n, ∀ m, m ≤ n → QAll ts g vin m
  | 0, m, hm => by
    obtain rfl : m = 0 := by omega
    exact ⟨(fun k out R v w h => by rw [rd] at h; cases h), qreads_zero _ _ _ _, qreads_zero _ _ _ _, qreads_zero _ _ _ _, qreads_zero _ _ _ _, qreads_zero _ _ _ _, qreads_zero _ _ _ _⟩
  | n + 1, m, hm => by
    have ih := qall ts g vin hl n
    by_cases h : m ≤ n
    · exact ih m h
    · obtain rfl : m = n + 1 := by omega
      have hn := ih n (Nat.le_refl n)
      have h1 := one_any ts g n vin hl hn.one hn.r1
      exact ⟨h1, readrow_any ts g n 1 vin hl (by omega) (by omega) (by omega) fun m h => (ih m h).r2, readrow_any ts g n 2 vin hl (by omega) (by omega) (by omega) fun m h => (ih m h).r3, read3_any ts g n vin hl hn.r3 hn.r4,
        readrow_any ts g n 4 vin hl (by omega) (by omega) (by omega) fun m h => (ih m h).r5, readrow_any ts g n 5 vin hl (by omega) (by omega) (by omega) fun m h => (ih m h).r6, read6_any ts g (n + 1) vin h1⟩
end Go.Proofs.YtoiflidlnajbdaaGreatDoor
