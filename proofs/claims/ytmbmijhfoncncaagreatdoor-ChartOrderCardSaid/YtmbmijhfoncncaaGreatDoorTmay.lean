/- The contracts of parse.May and of the document's May. -/
import Derived.Test.YtmbmijhfoncncaaGreatDoorTtak
namespace Go.Proofs.YtmbmijhfoncncaaGreatDoor
open Go.ChangeShapes Go.WideShapes Go.ChangeAt Go.RowKit
set_option linter.unusedVariables false

theorem cnt_none {t : Tk} {r : List Tk} {n : Int} (h : tak t < 0 ∨ n < tak t) : cnt (t :: r) n = none := by rw [cnt, if_pos h]
theorem cnt_some {t : Tk} {r : List Tk} {n : Int} (h0 : 0 ≤ tak t) (h : tak t ≤ n) : cnt (t :: r) n = cnt r (n - tak t + 1) := by rw [cnt, if_neg (by omega)]
theorem drop_at {ts : List Tk} {k : Nat} (h : k < ts.length) : ts.drop k = ts[k] :: ts.drop (k + 1) := List.drop_eq_getElem_cons h
def isOne (C : Option Int) : Bool := decide (C = some 1)
theorem isOne_none : isOne none = false := rfl
theorem isOne_some (n : Int) : isOne (some n) = (n == 1) := by unfold isOne; rw [Bool.eq_iff_iff]; simp
theorem mayP_eq (ts : List Tk) : mayP ts = (decide (ts.length ≤ 100) && isOne (cnt ts 0)) := rfl
set_option maxHeartbeats 4000000 in
set_option maxRecDepth 100000 in
theorem may_near (v : Value) (ts : List Tk) (w : World) (hv : ToksAt w v ts) (hl : ts.length ≤ 100) : Calls Tryz.prog 53 #[v] w fun e w' => e = .returned (.bool (isOne (cnt ts 0))) ∧ Below w.heap.size w w' := by
  obtain ⟨A, cap, rfl, hc, hel⟩ := hv
  have HE := Lib.hid hel
  clear hel
  go_enter Tryz.func53, Tryz.ntmps53
  go_wp2_with fail
  go_loopw [3, 13] (fun l i wr => ∃ (k : Nat) (n : Int), k ≤ ts.length ∧ i = .int .i64 (k : Int) ∧ l = .int .i64 n ∧ 0 ≤ n ∧ n ≤ k ∧ Hid (cnt (ts.drop k) n = cnt ts 0) ∧ Below w.heap.size w wr) (fun _ i _ => ts.length - (intOf i).toNat)
  case atStart => exact ⟨0, 0, Nat.zero_le _, rfl, rfl, by omega, by omega, Lib.hid rfl, Below.refl _ _⟩
  case round =>
    obtain ⟨k, n, hk, rfl, rfl, hn0, hnk, hC, hb⟩ := hrel
    obtain ⟨wo, rfl⟩ : ∃ wo : World, wo = wr := ⟨_, rfl⟩
    by_cases hlt : k < ts.length
    · obtain ⟨b, o, rfl, hbw, c0, c1, c2⟩ := HE.out k ts[k] (List.getElem?_eq_getElem hlt)
      have c0 : wo.cell? ⟨b, o + k * 3, none⟩ = _ := (hb.cell (p := ⟨b, _, none⟩) hbw).trans c0
      have c1 : wo.cell? ⟨b, o + k * 3 + 1, none⟩ = _ := (hb.cell (p := ⟨b, _, none⟩) hbw).trans c1
      have c2 : wo.cell? ⟨b, o + k * 3 + 2, none⟩ = _ := (hb.cell (p := ⟨b, _, none⟩) hbw).trans c2
      have HD := Lib.hid (drop_at hlt)
      generalize ts[k] = t at *
      have HB1 := Lib.hid ((Below.refl wo.heap.size wo).alloc (Nat.le_refl _) (.cells #[.int .i64 t.1, .int .i64 t.2.1, .int .i64 t.2.2] 101))
      by_cases ht : 0 ≤ tak t
      · have hd : decide (0 ≤ tak t) = true := by simpa using ht
        by_cases hq : tak t ≤ n
        · have HC := Lib.hid (show cnt (ts.drop (k + 1)) (n - tak t + 1) = cnt ts 0 by rw [← hC.out, HD.out, cnt_some ht hq])
          clear hC
          go_wp2_with fail
          refine (takes_any t _).mono ?_
          rintro e w1 ⟨hb1, m, rfl, hm, hm0, hm2⟩
          rw [hd]
          have hmt := hm ht
          have HX := Lib.hid ((hb.trans (HB1.out.mono hb.size)).trans (hb1.mono (by simp; have := hb.size; omega)))
          have HMT := Lib.hid hmt
          have hq' : m ≤ n := by omega
          clear hm hmt hb1 ht hq hd
          go_wp2
          go_roundw
          case rel => exact ⟨k + 1, n - m + 1, by omega, by go_num, by congr 1; omega, by omega, by omega, Lib.hid (by rw [HMT.out]; exact HC.out), HX.out⟩
          case measure => simp [intOf]; omega
        · have HC := Lib.hid (show cnt ts 0 = none by rw [← hC.out, HD.out, cnt_none (.inr (by omega))])
          clear hC
          go_wp2_with fail
          refine (takes_any t _).mono ?_
          rintro e w1 ⟨hb1, m, rfl, hm, hm0, hm2⟩
          rw [hd]
          have hmt := hm ht
          have HX := Lib.hid ((hb.trans (HB1.out.mono hb.size)).trans (hb1.mono (by simp; have := hb.size; omega)))
          have hq' : n < m := by omega
          clear hm hmt hb1 ht hq hd
          go_wp2
          go_ret
          exact ⟨by rw [HC.out]; rfl, HX.out⟩
      · have hd : decide (0 ≤ tak t) = false := by simpa using ht
        have HC := Lib.hid (show cnt ts 0 = none by rw [← hC.out, HD.out, cnt_none (.inl (by omega))])
        clear hC
        go_wp2_with fail
        refine (takes_any t _).mono ?_
        rintro e w1 ⟨hb1, m, rfl, hm, hm0, hm2⟩
        rw [hd]
        have HX := Lib.hid ((hb.trans (HB1.out.mono hb.size)).trans (hb1.mono (by simp; have := hb.size; omega)))
        clear hm hb1 ht hd
        go_wp2
        go_ret
        exact ⟨by rw [HC.out]; rfl, HX.out⟩
    · obtain rfl : k = ts.length := by omega
      have HC := Lib.hid (show cnt ts 0 = some n by rw [← hC.out, List.drop_length, cnt])
      clear hC
      go_wp2
      go_ret
      exact ⟨by rw [HC.out, isOne_some]; rfl, hb⟩
set_option maxHeartbeats 1000000 in
theorem may_far (v : Value) (ts : List Tk) (w : World) (hv : ToksAt w v ts) (hl : 100 < ts.length) (hl2 : ts.length ≤ 1000000) : Calls Tryz.prog 53 #[v] w fun e w' => e = .returned (.bool false) ∧ Below w.heap.size w w' := by
  obtain ⟨A, cap, rfl, hc, hel⟩ := hv
  clear hel
  go_enter Tryz.func53, Tryz.ntmps53
  go_wp2_with fail
  go_ret
  exact ⟨rfl, Below.refl _ _⟩
theorem may_any (v : Value) (ts : List Tk) (w : World) (hv : ToksAt w v ts) (hl2 : ts.length ≤ 1000000) : Calls Tryz.prog 53 #[v] w fun e w' => e = .returned (.bool (mayP ts)) ∧ Below w.heap.size w w' := by
  rw [mayP_eq]
  by_cases h : ts.length ≤ 100
  · rw [decide_eq_true h, Bool.true_and]; exact may_near v ts w hv h
  · rw [decide_eq_false h, Bool.false_and]; exact may_far v ts w hv (by omega) hl2

end Go.Proofs.YtmbmijhfoncncaaGreatDoor
