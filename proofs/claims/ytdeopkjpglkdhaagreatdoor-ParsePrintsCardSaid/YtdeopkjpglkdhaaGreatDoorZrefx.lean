/- The contract of the document's own answer for tokens' text (spinetref02.Text). -/
import Derived.Test.YtdeopkjpglkdhaaGreatDoorZgen
import Derived.Test.YtdeopkjpglkdhaaGreatDoorZrefd
namespace Go.Proofs.YtdeopkjpglkdhaaGreatDoor
open Go.ChangeShapes Go.WideShapes Go.ChangeAt Go.RowKit
set_option linter.unusedVariables false

set_option maxHeartbeats 4000000 in
set_option maxRecDepth 100000 in
theorem rtext_any (v : Value) (ts : List Tk) (w : World) (hv : ToksAt w v ts) (hn : ∀ t ∈ ts, t.2.1 ≤ 9223372036854775807) (hl : ts.length ≤ 1000000) :
    Calls Tryz.prog 24 #[v] w (RTextPost ts w) := by
  have HN := Lib.hid hn
  clear hn
  obtain ⟨A, cap, rfl, hc, hel⟩ := hv
  have HE := Lib.hid hel
  clear hel
  go_enter Tryz.func24, Tryz.ntmps24
  go_wp2
  go_loopw [4, 5] (fun v i wr => ∃ (k : Nat) (S : ByteArray), k ≤ ts.length ∧ i = .int .i64 (k : Int) ∧ v = .string S ∧ S.size ≤ 21 * k ∧ Hid (S = bytes (joinB (ts.take k))) ∧ Hid (∀ t ∈ ts.take k, mayB t = true) ∧ Below w.heap.size w wr) (fun _ i _ => ts.length - (intOf i).toNat)
  case atStart => exact ⟨0, ⟨#[]⟩, Nat.zero_le _, rfl, rfl, by decide, Lib.hid rfl, Lib.hid (by simp), Below.refl _ _⟩
  case round =>
    obtain ⟨k, S, hk, rfl, rfl, hS, hJ, hall, hb⟩ := hrel
    obtain ⟨wo, rfl⟩ : ∃ wo : World, wo = wr := ⟨_, rfl⟩
    by_cases hlt : k < ts.length
    · obtain ⟨b, o, rfl, hbw, c0, c1, c2⟩ := HE.out k ts[k] (List.getElem?_eq_getElem hlt)
      have c0 : wo.cell? ⟨b, o + k * 3, none⟩ = _ := (hb.cell (p := ⟨b, _, none⟩) hbw).trans c0
      have c1 : wo.cell? ⟨b, o + k * 3 + 1, none⟩ = _ := (hb.cell (p := ⟨b, _, none⟩) hbw).trans c1
      clear c2
      have HT := Lib.hid (List.take_succ_eq_append_getElem hlt)
      have HM := Lib.hid (List.getElem_mem hlt)
      have HB := Lib.hid (HN.out ts[k] (List.getElem_mem hlt))
      generalize ts[k] = t at *
      obtain ⟨kd, n, a⟩ := t
      simp only at c0 c1 HB
      cases hm : mayB (kd, n, a) with
      | false =>
        have HBad := Lib.hid (show ¬ ∀ t ∈ ts, mayB t = true from fun h => Bool.false_ne_true (hm.symm.trans (h _ HM.out)))
        by_cases e1 : kd = 1
        · subst e1
          have h0 : n < 0 := by have := hm; rw [mayB_num 1 n a rfl] at this; simpa using this
          have z : (n == 0) = false := by simp; omega
          clear hm
          go_wp2_with fail
          go_ret2
          exact ⟨hb, .inr ⟨HBad.out, rfl⟩⟩
        · have e1' : (kd == 1) = false := by simpa using e1
          by_cases e2 : kd = 2
          · subst e2
            have h0 : n < 0 ∨ 26 ≤ n := by have := hm; rw [mayB_var 2 n a rfl] at this; simp at this; omega
            have z : (n == 0) = false := by simp; omega
            clear hm
            rcases h0 with h0 | h0
            · go_wp2_with fail
              go_ret2
              exact ⟨hb, .inr ⟨HBad.out, rfl⟩⟩
            · have h00 : 0 ≤ n := by omega
              go_wp2_with fail
              go_ret2
              exact ⟨hb, .inr ⟨HBad.out, rfl⟩⟩
          · have e2' : (kd == 2) = false := by simpa using e2
            cases z : (n == 0) with
            | false =>
              clear hm
              go_wp2_with fail
              go_ret2
              exact ⟨hb, .inr ⟨HBad.out, rfl⟩⟩
            | true =>
              have hs0 : signT kd = [] := by
                unfold signT
                rw [if_neg]
                intro h
                rw [mayB_else kd n a ⟨by omega, h.2⟩ e1' e2', z] at hm
                cases hm
              have HD := Lib.hid (fun W => signs_any kd W)
              rw [hs0] at HD
              have hx0 : (bytes []).toList.isEmpty = true := by rw [Lib.toList_data]; rfl
              clear hm hs0
              go_wp2_with (go_at_call 25; refine (HD.out _).mono ?_; rintro e w' ⟨rfl, rfl⟩)
              go_ret2
              exact ⟨hb, .inr ⟨HBad.out, rfl⟩⟩
      | true =>
        have hr := mayB_range hm
        simp only at hr
        obtain ⟨r1, r2, r3, r4, r5⟩ := hr
        have HMM := Lib.hid hm
        have HALL := Lib.hid (show ∀ t ∈ ts.take (k + 1), mayB t = true by
          rw [HT.out]; intro x hx
          rcases List.mem_append.1 hx with h | h
          · exact hall.out x h
          · obtain rfl := List.mem_singleton.1 h; exact hm)
        by_cases e1 : kd = 1
        · have h0 := r3 e1
          subst e1
          have HD := Lib.hid (fun W => digits_any n.toNat W (by have := HB.out; omega))
          have q1 : ((n.toNat : Nat) : Int) = n := by omega
          rw [q1] at HD
          have HX := Lib.hid (show bytes (Lib.decDigits n.toNat) = bytes (textB (1, n, a)) by rw [textB_num n a h0])
          generalize bytes (Lib.decDigits n.toNat) = X at HD HX
          have HST := Lib.hid (text_step hJ.out HT.out HX.out hlt)
          have hx1 : X.size ≤ 20 := by rw [HX.out, bytes_size]; exact textB_len HMM.out HB.out
          have hx2 : X.toList.isEmpty = false := by rw [HX.out]; exact bytes_full (textB_ne HMM.out)
          clear q1 r1 r2 r3 r4 r5 hm
          go_wp2_with fail
          refine (HD.out _).mono ?_
          rintro e w1 ⟨rfl, hb1⟩
          have HB1 := Lib.hid (hb.trans (hb1.mono hb.size))
          clear hb1
          go_wp2
          all_goals
            go_roundw
            case rel => first | exact ⟨k + 1, _, by omega, by go_num, rfl, by rw [ByteArray.size_append, ByteArray.size_append]; have : (⟨#[32]⟩ : ByteArray).size = 1 := rfl; omega, Lib.hid (HST.out.1 (by assumption)), HALL, HB1.out⟩ | exact ⟨k + 1, _, by omega, by go_num, rfl, by rw [ByteArray.size_append]; omega, Lib.hid (HST.out.2 (by assumption)), HALL, HB1.out⟩
            case measure => simp [intOf]; omega
        · have e1' : (kd == 1) = false := by simpa using e1
          by_cases e2 : kd = 2
          · obtain ⟨h0, h1⟩ := r4 e2
            subst e2
            have h26 : n < 26 := by omega
            have hcv := one_byte wo (97 + n) (by omega) (by omega)
            have HX := Lib.hid (show bytes [UInt8.ofNat (97 + n).toNat] = bytes (textB (2, n, a)) by rw [textB_var n a h0])
            generalize bytes [UInt8.ofNat (97 + n).toNat] = X at hcv HX
            have HST := Lib.hid (text_step hJ.out HT.out HX.out hlt)
            have hx1 : X.size ≤ 20 := by rw [HX.out, bytes_size]; exact textB_len HMM.out HB.out
            have hx2 : X.toList.isEmpty = false := by rw [HX.out]; exact bytes_full (textB_ne HMM.out)
            have HB1 := Lib.hid (hb.alloc hb.size (.cells #[.int .u8 (97 + n)] 5))
            clear r1 r2 r3 r4 r5 hm e1
            go_wp2
            all_goals
              go_roundw
              case rel => first | exact ⟨k + 1, _, by omega, by go_num, rfl, by rw [ByteArray.size_append, ByteArray.size_append]; have : (⟨#[32]⟩ : ByteArray).size = 1 := rfl; omega, Lib.hid (HST.out.1 (by assumption)), HALL, HB1.out⟩ | exact ⟨k + 1, _, by omega, by go_num, rfl, by rw [ByteArray.size_append]; omega, Lib.hid (HST.out.2 (by assumption)), HALL, HB1.out⟩
              case measure => simp [intOf]; omega
          · have h0 := r5 e1 e2
            subst h0
            have e2' : (kd == 2) = false := by simpa using e2
            have HD := Lib.hid (fun W => signs_any kd W)
            have HX := Lib.hid (show bytes (signT kd) = bytes (textB (kd, 0, a)) by rw [textB_fix kd 0 a (by omega) r2])
            generalize bytes (signT kd) = X at HD HX
            have HST := Lib.hid (text_step hJ.out HT.out HX.out hlt)
            have hx1 : X.size ≤ 20 := by rw [HX.out, bytes_size]; exact textB_len HMM.out HB.out
            have hx2 : X.toList.isEmpty = false := by rw [HX.out]; exact bytes_full (textB_ne HMM.out)
            have HB1 := Lib.hid hb
            clear r1 r2 r3 r4 r5 hm
            go_wp2_with (go_at_call 25; refine (HD.out _).mono ?_; rintro e w' ⟨rfl, rfl⟩)
            all_goals
              go_roundw
              case rel => first | exact ⟨k + 1, _, by omega, by go_num, rfl, by rw [ByteArray.size_append, ByteArray.size_append]; have : (⟨#[32]⟩ : ByteArray).size = 1 := rfl; omega, Lib.hid (HST.out.1 (by assumption)), HALL, HB1.out⟩ | exact ⟨k + 1, _, by omega, by go_num, rfl, by rw [ByteArray.size_append]; omega, Lib.hid (HST.out.2 (by assumption)), HALL, HB1.out⟩
              case measure => simp [intOf]; omega
    · obtain rfl : k = ts.length := by omega
      have hJ' := hJ.out
      have hall' := hall.out
      rw [List.take_length] at hJ' hall'
      have HJ := Lib.hid hJ'
      have HA := Lib.hid hall'
      clear hJ hall hJ' hall'
      go_wp2
      go_ret2
      refine ⟨hb, .inl ⟨HA.out, ?_⟩⟩
      rw [← HJ.out]
      rfl
end Go.Proofs.YtdeopkjpglkdhaaGreatDoor
