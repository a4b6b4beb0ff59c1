/- The walk of the law ChartLess: true for any chart and any number. -/
import Derived.Test.YtmbmijhfoncncaaGreatDoorClaw2
namespace Go.Proofs.YtmbmijhfoncncaaGreatDoor
open Go.ChangeShapes Go.WideShapes Go.ChangeAt Go.RowKit
set_option linter.unusedVariables false

theorem few_take {C : Ch} (h : fewB C = true) (n : Nat) : fewB ⟨C.vars, C.sts, C.trs.take n⟩ = true := by
  obtain ⟨h1, h2, h3, h4⟩ := few_parts h
  refine few_all h1 (by simp only [List.length_take]; omega) h3 fun k hk => ?_
  simp only [List.length_take] at hk ⊢
  have := h4 k (by omega)
  rw [show (C.trs.take n).getD k noTr = C.trs.getD k noTr by simp [List.getD, show k < n by omega]]
  exact this
theorem has_take {w : World} {vs : Value} {A : Option Addr} {len cap : Nat} {C : Ch} (h : ChHas w vs (.slice A len cap) C) (n : Nat) (hn : n ≤ len) : ChHas w vs (.slice A n cap) ⟨C.vars, C.sts, C.trs.take n⟩ := ⟨h.1, RowsAt.take h.2 n hn⟩
set_option maxHeartbeats 4000000 in
set_option maxRecDepth 100000 in
theorem law3_any (vs vt : Value) (C : Ch) (n : Int) (w : World) (hL : Laid w) (hC : ChHas w vs vt C) (hS : ShortCh C) :
    Calls Tryz.prog 5 #[.agg #[.int .i64 C.vars, vs, vt], .int .i64 n] w fun e w' => e = .returned (.bool true) ∧ Below w.heap.size w w' := by
  have HL := Lib.hid hL
  have HL0 := Lib.hid (hL.after (below_box w (chBox C.vars vs vt)))
  have HF := Lib.hid (fun (W : World) (h : Below (w.alloc (chBox C.vars vs vt)).heap.size (w.alloc (chBox C.vars vs vt)) W) => few_any C.vars vs vt C W (hC.below (below_boxed h)) hS)
  have HC := Lib.hid hC
  have HCH := Lib.hid (fun (W : World) (hF : fewB C = true) (h : Below (w.alloc (chBox C.vars vs vt)).heap.size (w.alloc (chBox C.vars vs vt)) W) => chk_any vs vt C W (hL.after (below_boxed h)) (hC.below (below_boxed h)) hF)
  have hlt := hS.trs
  unfold Short at hlt
  have hnn := neq_nil_nil
  have hen := eqe_nil
  have hnc := fun p W => neq_code_any p W
  have hns := fun p W => neq_spot_any p W
  clear hL hC hS
  cases hf : fewB C with
  | false =>
    have HFF := Lib.hid hf
    clear hf
    go_enter Tryz.func5, Tryz.ntmps5
    go_wp2_with fail
    refine (up_any _ HL0.out).mono ?_
    rintro e w1 ⟨rfl, hb1⟩
    obtain ⟨x0, x1, x2⟩ := box_later hb1
    have HB1 := Lib.hid hb1
    clear hb1
    go_wp2_with fail
    refine (HF.out _ HB1.out).mono ?_
    rintro e w2 ⟨rfl, hb2⟩
    have HB2 := Lib.hid (HB1.out.trans (hb2.mono HB1.out.size))
    rw [HFF.out]
    clear hb2
    go_wp2_with fail
    go_ret
    exact ⟨rfl, below_boxed HB2.out⟩
  | true =>
    have HCK := Lib.hid (fun W => HCH.out W hf)
    have HFF := Lib.hid hf
    have h60 := (few_parts hf).2.1
    clear hf HCH
    obtain ⟨A2, cap2, hvt, hcap2⟩ := RowsAt.slice HC.out.2
    subst hvt
    by_cases hn0 : n < 0
    · have hn1 : decide (n < 0) = true := by simpa using hn0
      go_enter Tryz.func5, Tryz.ntmps5
      go_wp2_with fail
      refine (up_any _ HL0.out).mono ?_
      rintro e w1 ⟨rfl, hb1⟩
      obtain ⟨x0, x1, x2⟩ := box_later hb1
      have HB1 := Lib.hid hb1
      clear hb1
      go_wp2_with fail
      refine (HF.out _ HB1.out).mono ?_
      rintro e w2 ⟨rfl, hb2⟩
      have HB2 := Lib.hid (HB1.out.trans (hb2.mono HB1.out.size))
      rw [HFF.out]
      clear hb2
      go_wp2_with fail
      go_ret
      exact ⟨rfl, below_boxed HB2.out⟩
    · obtain ⟨k, rfl⟩ : ∃ k : Nat, n = (k : Int) := ⟨n.toNat, by omega⟩
      have hn1 : decide ((k : Int) < 0) = false := by simp
      have hn2 : 0 ≤ (k : Int) := by omega
      by_cases hk : C.trs.length < k
      · have hk1 : decide ((C.trs.length : Int) < (k : Int)) = true := by simp; omega
        have hk2 : decide (C.trs.length < k) = true := by simpa using hk
        go_enter Tryz.func5, Tryz.ntmps5
        go_wp2_with fail
        refine (up_any _ HL0.out).mono ?_
        rintro e w1 ⟨rfl, hb1⟩
        obtain ⟨x0, x1, x2⟩ := box_later hb1
        have HB1 := Lib.hid hb1
        clear hb1
        go_wp2_with fail
        refine (HF.out _ HB1.out).mono ?_
        rintro e w2 ⟨rfl, hb2⟩
        have hB2 := HB1.out.trans (hb2.mono HB1.out.size)
        clear x0 x1 x2
        obtain ⟨x0, x1, x2⟩ := box_later hB2
        have HB2 := Lib.hid hB2
        rw [HFF.out]
        clear hb2 hB2
        go_wp2_with fail
        go_ret
        exact ⟨rfl, below_boxed HB2.out⟩
      · have hk1 : decide ((C.trs.length : Int) < (k : Int)) = false := by simp; omega
        have hk2 : decide (C.trs.length < k) = false := by simpa using hk
        have hkl : k ≤ C.trs.length := by omega
        by_cases hok : chk hasTB C = .ok
        · have HOK := Lib.hid (chk_less hok k)
          have HFT := Lib.hid (few_take HFF.out k)
          have HHT := Lib.hid (has_take HC.out k hkl)
          rw [hok] at HCK
          clear hok
          go_enter Tryz.func5, Tryz.ntmps5
          go_wp2_with fail
          refine (up_any _ HL0.out).mono ?_
          rintro e w1 ⟨rfl, hb1⟩
          obtain ⟨x0, x1, x2⟩ := box_later hb1
          have HB1 := Lib.hid hb1
          clear hb1
          go_wp2_with fail
          refine (HF.out _ HB1.out).mono ?_
          rintro e w2 ⟨rfl, hb2⟩
          have hB2 := HB1.out.trans (hb2.mono HB1.out.size)
          clear x0 x1 x2
          obtain ⟨x0, x1, x2⟩ := box_later hB2
          have HB2 := Lib.hid hB2
          rw [HFF.out]
          clear hb2 hB2
          go_wp2_with fail
          refine (HCK.out _ HB2.out).mono ?_
          rintro e w3 ⟨hb3, he⟩
          have he' : e = .returned .nilIface := he
          subst he'
          have hB3 := HB2.out.trans (hb3.mono HB2.out.size)
          clear x0 x1 x2
          have hK := (Blk.new w 25 #[.int .i64 C.vars, vs, .slice A2 C.trs.length cap2]).below hB3 (by simp)
          have HK := Lib.hid hK
          obtain ⟨⟨x0, x1, x2⟩, g0, g1, g2⟩ := hK.facts3
          have HB3 := Lib.hid hB3
          clear hb3 he hB3 hK
          go_wp2_with fail
          have HB4 := Lib.hid ((below_boxed HB3.out).setCell (p := ⟨w.heap.size, 2, none⟩) (Nat.le_refl _) (.slice A2 k cap2))
          have hcall := chk_any vs (.slice A2 k cap2) ⟨C.vars, C.sts, C.trs.take k⟩ _ (HL.out.after HB4.out) (HHT.out.below HB4.out) HFT.out
          rw [HOK.out] at hcall
          refine hcall.mono ?_
          rintro e w4 ⟨hb4, he⟩
          have he' : e = .returned .nilIface := he
          subst he'
          have HB5 := Lib.hid (HB4.out.trans (hb4.mono HB4.out.size))
          clear hb4 he hcall
          go_wp2_with fail
          go_ret
          exact ⟨rfl, HB5.out⟩
        · have HOK := Lib.hid hok
          clear hok
          go_enter Tryz.func5, Tryz.ntmps5
          go_wp2_with fail
          refine (up_any _ HL0.out).mono ?_
          rintro e w1 ⟨rfl, hb1⟩
          obtain ⟨x0, x1, x2⟩ := box_later hb1
          have HB1 := Lib.hid hb1
          clear hb1
          go_wp2_with fail
          refine (HF.out _ HB1.out).mono ?_
          rintro e w2 ⟨rfl, hb2⟩
          have hB2 := HB1.out.trans (hb2.mono HB1.out.size)
          clear x0 x1 x2
          obtain ⟨x0, x1, x2⟩ := box_later hB2
          have HB2 := Lib.hid hB2
          rw [HFF.out]
          clear hb2 hB2
          go_wp2_with fail
          refine (HCK.out _ HB2.out).mono ?_
          intro e w3 hp
          obtain ⟨hb3, v, rfl, hv⟩ := hp.not HOK.out
          have HB3 := Lib.hid (HB2.out.trans (hb3.mono HB2.out.size))
          clear hb3 hp
          rcases hv with ⟨p, rfl⟩ | ⟨p, rfl⟩
          · go_wp2_with fail
            go_ret
            exact ⟨rfl, below_boxed HB3.out⟩
          · go_wp2_with fail
            go_ret
            exact ⟨rfl, below_boxed HB3.out⟩
end Go.Proofs.YtmbmijhfoncncaaGreatDoor
