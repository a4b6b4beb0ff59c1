/- The law MailboxTakes: it holds. -/
import Derived.Test.YtmolegodfepmnaaMup
import Derived.Test.YtmolegodfepmnaaMarg
namespace Go.Proofs.Ytmolegodfepmnaa
open Go.ChangeShapes Go.WideShapes Go.ChangeAt Go.RowKit
set_option linter.unusedVariables false

theorem putE_room {r : Int} {L : List Int} (h : ¬ (L.length : Int) = r) : putE r false L = .nilIface := by unfold putE; rw [if_neg (by simp), if_neg (by simpa using h)]
theorem putL_room {r : Int} {L : List Int} (h : ¬ (L.length : Int) = r) (n : Int) : putL r false L n = L ++ [n] := by unfold putL; rw [if_neg (by simp), if_neg (by simpa using h)]
set_option maxHeartbeats 8000000 in
set_option maxRecDepth 100000 in
theorem takes_any (v : Value) (l : List Int) (w : World) (hv : ListAt w v l) : Calls Try.prog 4 #[v] w fun e w' => e = .returned (.bool true) ∧ Below w.heap.size w w' := by
  obtain ⟨A, cap, rfl, hcap, he⟩ := hv
  have HE := Lib.hid he
  clear he
  have e12 := fun W => (eql_codes W).2.2
  have en := eql_nil_nil
  have nn := neq_nil_nil
  by_cases h1 : 200 < (l.length : Int)
  · go_enter Try.func4, Try.ntmps4
    go_wp2_with fail
    refine (up_any _).mono ?_
    rintro e w1 ⟨rfl, hb1⟩
    go_wp2_with fail
    go_ret
    exact ⟨rfl, hb1⟩
  by_cases h0 : (l.length : Int) = 0
  · have h0' : ((l.length : Int) == 0) = true := by simpa using h0
    have H0 := Lib.hid h0
    clear h0
    go_enter Try.func4, Try.ntmps4
    go_wp2_with fail
    refine (up_any _).mono ?_
    rintro e w1 ⟨rfl, hb1⟩
    go_wp2_with fail
    go_ret
    exact ⟨rfl, hb1⟩
  have h0' : ((l.length : Int) == 0) = false := by simpa using h0
  have H0 := Lib.hid h0
  have H1 := Lib.hid h1
  clear h0
  go_enter Try.func4, Try.ntmps4
  go_wp2_with fail
  refine (up_any _).mono ?_
  rintro e w1 ⟨rfl, hb1⟩
  have HB1 := Lib.hid hb1
  clear hb1
  go_wp2_with fail
  refine (new_ok _ _ (by have := H0.out; omega) (by have := H1.out; omega)).mono ?_
  rintro e w2 ⟨rfl, h2, hb2⟩
  obtain ⟨b, hb⟩ : ∃ b, w1.heap.size = b := ⟨_, rfl⟩
  rw [hb] at h2 hb2
  have hs2 : b ≤ w2.heap.size := by have := hb2.size; omega
  have hwb : w.heap.size ≤ b := by have := HB1.out.size; omega
  have HB2 := Lib.hid (HB1.out.trans (hb2.mono hwb))
  have H2 := Lib.hid h2
  rw [hb]
  clear h2 hb2 hb HB1
  go_wp2_with fail
  go_loopw [6] (fun i wr => ∃ (k : Nat) (vn : Value), k ≤ l.length ∧ i = .int .i64 (k : Int) ∧ FreeAt wr b b l.length false vn (l.take k) ∧ Below w.heap.size w wr ∧ b ≤ wr.heap.size) (fun i _ => l.length - (intOf i).toNat)
  case atStart => exact ⟨0, _, Nat.zero_le _, rfl, H2.out, HB2.out, hs2⟩
  case round =>
    obtain ⟨k, vn, hk, rfl, hfa, hbw, hsz⟩ := hrel
    obtain ⟨wo, rfl⟩ : ∃ wo : World, wo = wr := ⟨_, rfl⟩
    by_cases hlt : k < l.length
    · obtain ⟨g, o, rfl, hg, hc⟩ := HE.out k _ (List.getElem?_eq_getElem hlt)
      have c0 : wo.cell? ⟨g, o + k, none⟩ = some (.int .i64 l[k]) := by have := IntAt.keeps w wo g _ _ hbw hg hc; rwa [Nat.mul_one] at this
      have htk : l.take (k + 1) = l.take k ++ [l[k]] := (List.take_append_getElem hlt).symm
      have HTK := Lib.hid htk
      have hln : (l.take k).length = k := by rw [List.length_take]; omega
      have hne : ¬ (((l.take k).length : Nat) : Int) = (l.length : Int) := by rw [hln]; omega
      have HNE := Lib.hid hne
      have HFA := Lib.hid hfa
      have HBW := Lib.hid hbw
      have hlk : Hid ((l.take k).length ≤ 1000000) := by have := H1.out; show _ ≤ _; rw [hln]; omega
      clear htk hln hne hfa hbw hc
      generalize l[k] = x at *
      go_wp2_with fail
      refine (push_any HFA.out hsz x hlk.out (.inr HNE.out)).mono ?_
      rw [putE_room HNE.out, putL_room HNE.out]
      rintro e w3 ⟨rfl, v3, h3, m3⟩
      have hs3 : b ≤ w3.heap.size := Nat.le_trans hsz m3.size
      have HB3 := Lib.hid (HBW.out.trans ((HFA.out.under m3 hsz).mono hwb))
      have H3 := Lib.hid h3
      clear h3 m3
      go_wp2_with fail
      go_roundw
      case rel => exact ⟨k + 1, _, by omega, by go_num, by rw [HTK.out]; exact H3.out, HB3.out, hs3⟩
      case measure => simp [intOf]; omega
    · obtain rfl : k = l.length := by omega
      rw [List.take_length] at hfa
      have HFA := Lib.hid hfa
      have HBW := Lib.hid hbw
      clear hfa hbw
      go_wp2_with fail
      refine (close_any HFA.out hsz).mono ?_
      rintro e w3 ⟨rfl, v3, h3, m3⟩
      have hs3 : b ≤ w3.heap.size := Nat.le_trans hsz m3.size
      have HB3 := Lib.hid (HBW.out.trans ((HFA.out.under m3 hsz).mono hwb))
      have H3 := Lib.hid h3
      clear h3 m3 HFA HBW
      go_wp2_with fail
      go_loopw [8] (fun i wr => ∃ (k : Nat) (vn : Value), k ≤ l.length ∧ i = .int .i64 (k : Int) ∧ FreeAt wr b b l.length true vn (l.drop k) ∧ Below w.heap.size w wr ∧ b ≤ wr.heap.size) (fun i _ => l.length - (intOf i).toNat)
      case atStart => exact ⟨0, _, Nat.zero_le _, rfl, H3.out, HB3.out, hs3⟩
      case round =>
        obtain ⟨k, vn, hk, rfl, hfa, hbw, hsz⟩ := hrel
        obtain ⟨wo, rfl⟩ : ∃ wo : World, wo = wr := ⟨_, rfl⟩
        by_cases hlt : k < l.length
        · obtain ⟨g, o, rfl, hg, hc⟩ := HE.out k _ (List.getElem?_eq_getElem hlt)
          rw [List.drop_eq_getElem_cons hlt] at hfa
          have HC := Lib.hid (fun W (h : Below w.heap.size w W) => (by have := IntAt.keeps w W g _ _ h hg hc; rwa [Nat.mul_one] at this : W.cell? ⟨g, o + k, none⟩ = some (.int .i64 l[k])))
          have HFA := Lib.hid hfa
          have HBW := Lib.hid hbw
          clear hfa hbw hc
          generalize l[k] = x at *
          have hxx : (x != x) = false := by simp
          go_wp2_with fail
          refine (take_some HFA.out hsz).mono ?_
          rintro e w4 ⟨rfl, v4, h4, m4⟩
          have hs4 : b ≤ w4.heap.size := Nat.le_trans hsz m4.size
          have HB4 := Lib.hid (HBW.out.trans ((HFA.out.under m4 hsz).mono hwb))
          have H4 := Lib.hid h4
          have c0 := HC.out w4 HB4.out
          clear h4 m4 HFA HBW
          go_wp2_with fail
          go_roundw
          case rel => exact ⟨k + 1, _, by omega, by go_num, H4.out, HB4.out, hs4⟩
          case measure => simp [intOf]; omega
        · obtain rfl : k = l.length := by omega
          rw [List.drop_length] at hfa
          have HFA := Lib.hid hfa
          have HBW := Lib.hid hbw
          clear hfa hbw
          go_wp2_with fail
          refine (take_none HFA.out hsz).mono ?_
          rintro e w4 ⟨rfl, v4, h4, m4⟩
          have hs4 : b ≤ w4.heap.size := Nat.le_trans hsz m4.size
          have HB4 := Lib.hid (HBW.out.trans ((HFA.out.under m4 hsz).mono hwb))
          have H4 := Lib.hid h4
          clear h4 m4 HFA HBW
          go_wp2_with fail
          refine (push_any H4.out hs4 1 (by decide) (.inl rfl)).mono ?_
          rw [show ∀ r, putE r true [] = codeV 12 from fun _ => rfl]
          rintro e w5 ⟨rfl, v5, h5, m5⟩
          have HB5 := Lib.hid (HB4.out.trans ((H4.out.under m5 hs4).mono hwb))
          clear h5 m5 H4 HB4
          go_wp2_with fail
          go_ret
          exact ⟨rfl, HB5.out⟩
end Go.Proofs.Ytmolegodfepmnaa
