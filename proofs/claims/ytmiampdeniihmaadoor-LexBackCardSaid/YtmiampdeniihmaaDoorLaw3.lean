/- The walk of the law LexBack: true for any tokens. -/
import Derived.Test.YtmiampdeniihmaaDoorUp
import Derived.Test.YtmiampdeniihmaaDoorBack
import Derived.Test.YtmiampdeniihmaaDoorArg
namespace Go.Proofs.YtmiampdeniihmaaDoor
open Go.ChangeShapes Go.WideShapes Go.ChangeAt Go.RowKit
set_option linter.unusedVariables false

theorem neq_code_nil (w : World) : (binOp .neq 25 (.iface 28 (.int .i64 1)) .nilIface).run Tryd.prog w = .ok (.bool true) w := by kernel_rfl

set_option maxHeartbeats 2000000 in
set_option maxRecDepth 100000 in
theorem law3_far (A : Option Addr) (n cap : Nat) (w : World) (hL : Laid w) (hs : n ≤ 9223372036854775807) (h : 500 < n) :
    Calls Tryd.prog 5 #[.slice A n cap] w fun e w' => e = .returned (.bool true) ∧ Below w.heap.size w w' := by
  go_enter Tryd.func5, Tryd.ntmps5
  go_wp2_with fail
  refine (up_any _ hL).mono ?_
  rintro e w1 ⟨rfl, hb1⟩
  have HB1 := Lib.hid hb1
  clear hb1
  go_wp2
  go_ret
  exact ⟨rfl, HB1.out⟩

theorem back_list (ts : List Tk) : ((⟨#[32]⟩ : ByteArray) ++ bytes (joinB ts) ++ ⟨#[32]⟩).data.toList = 32 :: joinB ts ++ [32] := by
  simp [bytes]
theorem back_size (X : ByteArray) (h : X.size ≤ 198) : ((⟨#[32]⟩ : ByteArray) ++ X ++ ⟨#[32]⟩).size ≤ 200 := by
  have h1 : (⟨#[32]⟩ : ByteArray).size = 1 := rfl
  rw [ByteArray.size_append, ByteArray.size_append]; omega
theorem back_tokens (ts : List Tk) (Y : ByteArray) (w : World) (hL : Laid w) (hY : Y.data.toList = 32 :: joinB ts ++ [32]) (hs : Y.size ≤ 200) (us : List Tk) (hr : scan (32 :: joinB ts ++ [32]) 0 [] = (us, -1)) :
    Calls Tryd.prog 7 #[.string Y] w fun e w' => ∃ A cap, e = .returned (.tuple #[.slice A us.length cap, .nilIface]) ∧ ToksAt w' (.slice A us.length cap) us ∧ Below w.heap.size w w' := by
  refine (tokens_any Y w hL hs).mono ?_
  rintro e w' ⟨hb, h⟩
  rw [hY, hr] at h
  rcases h with ⟨_, v, rfl, hown⟩ | ⟨k, g, h, _⟩
  · have hT := ToksAt.of_own hown
    obtain ⟨A, cap, rfl, _⟩ := id hT
    exact ⟨A, cap, rfl, hT, hb⟩
  · simp at h
theorem same2_at {us ts : List Tk} (h : same2 us ts) (k : Nat) (hk : k < ts.length) : ∃ u, us[k]? = some u ∧ u.1 = ts[k].1 ∧ u.2.1 = ts[k].2.1 := by
  have h1 := congrArg (fun l => l[k]?) h
  simp only [List.getElem?_map, List.getElem?_eq_getElem hk, Option.map_some] at h1
  obtain ⟨u, hu, he⟩ := Option.map_eq_some_iff.1 h1
  simp only [Prod.mk.injEq] at he
  exact ⟨u, hu, he.1, he.2⟩

set_option maxHeartbeats 2000000 in
set_option maxRecDepth 100000 in
theorem law3_near (A : Option Addr) (cap : Nat) (ts : List Tk) (w : World) (hL : Laid w) (h : ts.length ≤ 500) (hv : ToksAt w (.slice A ts.length cap) ts) (hn : ∀ t ∈ ts, t.2.1 ≤ 9223372036854775807) :
    Calls Tryd.prog 5 #[.slice A ts.length cap] w fun e w' => e = .returned (.bool true) ∧ Below w.heap.size w w' := by
  have f1 := neq_code_nil
  have f2 := neq_nil_nil
  have HV := Lib.hid hv
  have HN := Lib.hid hn
  clear hv hn
  go_enter Tryd.func5, Tryd.ntmps5
  go_wp2_with fail
  refine (up_any _ hL).mono ?_
  rintro e w1 ⟨rfl, hb1⟩
  have HB1 := Lib.hid hb1
  have HL1 := Lib.hid (hL.after hb1)
  have HV1 := Lib.hid (HV.out.below hb1)
  clear hb1
  go_wp2_with fail
  refine (text_any _ ts _ HL1.out HV1.out HN.out (by omega)).mono ?_
  rintro e w2 ⟨hb2, hP⟩
  have HB2 := Lib.hid (HB1.out.trans (hb2.mono HB1.out.size))
  have HL2 := Lib.hid (HL1.out.after hb2)
  have HV2 := Lib.hid (HV1.out.below hb2)
  clear hb2
  rcases hP with ⟨hall, rfl⟩ | ⟨hnot, rfl⟩
  · have HA := Lib.hid hall
    clear hall
    have hX : ∃ X : ByteArray, X = bytes (joinB ts) := ⟨_, rfl⟩
    obtain ⟨X, hX⟩ := hX
    rw [← hX]
    have HX := Lib.hid hX
    have hz : X.size ≤ 1000000 := by
      rw [hX, bytes_size]
      have := join_le (ts.map textB) (fun x hx => by obtain ⟨t, ht, rfl⟩ := List.mem_map.1 hx; exact textB_len (HA.out t ht) (HN.out t ht))
      unfold joinB
      simp at this ⊢
      omega
    clear hX
    by_cases h198 : X.size ≤ 198
    · have h1 : (⟨#[32]⟩ : ByteArray).size = 1 := rfl
      clear h1
      go_wp2_with fail
      obtain ⟨us, hu, hr⟩ := scan_back ts HA.out HN.out
      refine (back_tokens ts _ _ HL2.out (by rw [HX.out]; exact back_list ts) (back_size X h198) us hr).mono ?_
      rintro e w3 ⟨A', cap', rfl, hT, hb3⟩
      clear hr
      have HB3 := Lib.hid (HB2.out.trans (hb3.mono HB2.out.size))
      have HV3 := HV2.out.below hb3
      have hul : us.length = ts.length := by have := congrArg List.length hu; simpa using this
      rw [hul]
      have HU := Lib.hid hu
      obtain ⟨A1, cap1, hv1, _, hel⟩ := HV3
      injection hv1 with q1 q2 q3
      subst q1
      obtain ⟨A2, cap2, hv2, _, hel'⟩ := hT
      injection hv2 with q4 q5 q6
      subst q4
      have HE := Lib.hid hel
      have HE' := Lib.hid hel'
      clear hel hel' hb3 hu hul q2 q3 q5 q6
      go_wp2
      go_loopw [8] (fun i wr => ∃ k n : Nat, k ≤ ts.length ∧ i = .int .i64 (k : Int) ∧ wr = w3.drewN n) (fun i _ => ts.length - (intOf i).toNat)
      case atStart => exact ⟨0, 0, Nat.zero_le _, rfl, rfl⟩
      case round =>
        obtain ⟨k, n, hk, rfl, rfl⟩ := hrel
        by_cases hlt : k < ts.length
        · obtain ⟨u, hu, hu1, hu2⟩ := same2_at HU.out k hlt
          obtain ⟨b, o, rfl, hbw, c0, c1, _⟩ := HE.out k ts[k] (List.getElem?_eq_getElem hlt)
          obtain ⟨b', o', rfl, hbw', d0, d1, _⟩ := HE'.out k u hu
          rw [hu1] at d0
          rw [hu2] at d1
          clear hu hu1 hu2
          generalize ts[k] = t at *
          go_wp2
          go_quiet (fail)
          go_wp2
          go_roundw
          case rel => exact ⟨k + 1, _, by omega, by go_num, rfl⟩
          case measure => simp [intOf]; omega
        · go_wp2
          go_ret
          exact ⟨rfl, below_drewN HB3.out _⟩
    · have h199 : 198 < X.size := by omega
      go_wp2
      go_ret
      exact ⟨rfl, HB2.out⟩
  · go_wp2
    go_ret
    exact ⟨rfl, HB2.out⟩

theorem law3 (A : Option Addr) (cap : Nat) (ts : List Tk) (w : World) (hL : Laid w) (hv : ToksAt w (.slice A ts.length cap) ts) (hn : ∀ t ∈ ts, Small t.2.1) (hs : Short ts.length) :
    Calls Tryd.prog 5 #[.slice A ts.length cap] w fun e w' => e = .returned (.bool true) ∧ Below w.heap.size w w' := by
  by_cases h : 500 < ts.length
  · exact law3_far A ts.length cap w hL hs h
  · exact law3_near A cap ts w hL (by omega) hv hn
end Go.Proofs.YtmiampdeniihmaaDoor
