/- The walk of the law ExprTyped: true for any tokens and any variables. -/
import Derived.Test.YtoiflidlnajbdaaDoorEup
import Derived.Test.YtoiflidlnajbdaaDoorErel
namespace Go.Proofs.YtoiflidlnajbdaaDoor
open Go.ChangeShapes Go.WideShapes Go.ChangeAt Go.RowKit
set_option linter.unusedVariables false

set_option maxHeartbeats 2000000 in
set_option maxRecDepth 100000 in
theorem law3_far (A eA : Option Addr) (n cap len ecap : Nat) (w : World) (hL : Laid w) (hs : n ≤ 9223372036854775807) (hs2 : len ≤ 9223372036854775807) (h : 300 < n ∨ (n ≤ 300 ∧ 100 < len)) :
    Calls Tryd.prog 5 #[.slice A n cap, .slice eA len ecap] w fun e w' => e = .returned (.bool true) ∧ Below w.heap.size w w' := by
  rcases h with h | ⟨h, h2⟩
  · have hd : decide ((300 : Int) < (n : Int)) = true := by simp; omega
    have hd2 : decide (300 < n) = true := by simpa using h
    go_enter Tryd.func5, Tryd.ntmps5
    go_wp2_with fail
    refine (up_any _ hL).mono ?_
    rintro e w1 ⟨rfl, hb1⟩
    have HB1 := Lib.hid hb1
    clear hb1
    go_wp2
    go_ret
    exact ⟨rfl, HB1.out⟩
  · have hd : decide ((300 : Int) < (n : Int)) = false := by simp; omega
    have hd2 : decide (300 < n) = false := by simpa using h
    have hd3 : decide ((100 : Int) < (len : Int)) = true := by simp; omega
    have hd4 : decide (100 < len) = true := by simpa using h2
    go_enter Tryd.func5, Tryd.ntmps5
    go_wp2_with fail
    refine (up_any _ hL).mono ?_
    rintro e w1 ⟨rfl, hb1⟩
    have HB1 := Lib.hid hb1
    clear hb1
    go_wp2
    go_ret
    exact ⟨rfl, HB1.out⟩
set_option maxHeartbeats 4000000 in
set_option maxRecDepth 100000 in
theorem law3_near (A eA : Option Addr) (cap ecap : Nat) (ts : List Tk) (env : List Int) (w : World) (hL : Laid w) (h : ts.length ≤ 300) (h2 : env.length ≤ 100) (hv : ToksAt w (.slice A ts.length cap) ts) (hE : NumsAt w (.slice eA env.length ecap) env) (hef : ∀ x ∈ env, F64 x) (hn : ∀ t ∈ ts, t.2.1 ≤ 9223372036854775807) :
    Calls Tryd.prog 5 #[.slice A ts.length cap, .slice eA env.length ecap] w fun e w' => e = .returned (.bool true) ∧ Below w.heap.size w w' := by
  have HT := Lib.hid (fun W hW => type_any (.slice A ts.length cap) ts (env.length : Int) W hW (by omega) hn)
  have HR := Lib.hid (fun W hW hX => eval_any (.slice A ts.length cap) (.slice eA env.length ecap) ts env W hW (by omega) hX (by omega) hef hn)
  have hA := ans_cases ⟨false, env, 0⟩ ts hn hef
  have hTV := tv_ans (env := env) hn
  have hd : decide ((300 : Int) < (ts.length : Int)) = false := by simp; omega
  have hd2 : decide (300 < ts.length) = false := by simpa using h
  have hd3 : decide ((100 : Int) < (env.length : Int)) = false := by simp; omega
  have hd4 : decide (100 < env.length) = false := by simpa using h2
  generalize ans ⟨false, env, 0⟩ ts = a at *
  generalize ans ⟨true, [], (env.length : Int)⟩ ts = b at *
  have hnn := neq_nil_nil
  have hnc := fun p W => neq_code_is p W
  have hez := eqv_zero
  have HV := Lib.hid hv
  have HE := Lib.hid hE
  have HL := Lib.hid hL
  clear hv hn hL hE hef
  cases b with
  | bad d =>
    obtain ⟨c, rfl⟩ := tv_bad hTV
    go_enter Tryd.func5, Tryd.ntmps5
    go_wp2_with fail
    refine (up_any _ HL.out).mono ?_
    rintro e w1 ⟨rfl, hb1⟩
    have HB1 := Lib.hid hb1
    have HV1 := Lib.hid (HV.out.below hb1)
    have HE1 := Lib.hid (HE.out.below hb1)
    clear hb1
    go_wp2_with fail
    refine (HT.out _ HV1.out).mono ?_
    rintro e w2 ⟨hb2, he⟩
    have he' : e = .returned (.tuple #[.int .i64 0, .iface 40 (.int .i64 d)]) := he
    subst he'
    have HB2 := Lib.hid (HB1.out.trans (hb2.mono HB1.out.size))
    have HV2 := Lib.hid (HV1.out.below hb2)
    have HE2 := Lib.hid (HE1.out.below hb2)
    clear hb2 he
    go_wp2_with fail
    refine (HR.out _ HV2.out HE2.out).mono ?_
    rintro e w3 ⟨hb3, he⟩
    have he' : e = .returned (.tuple #[.agg #[.int .i64 0, .int .i64 0], .iface 40 (.int .i64 c)]) := he
    subst he'
    have HB3 := Lib.hid (HB2.out.trans (hb3.mono HB2.out.size))
    clear hb3 he
    go_wp2_with fail
    go_ret
    exact ⟨rfl, HB3.out.alloc HB3.out.size _⟩
  | ok tk tn =>
    cases a with
    | bad c =>
      have h9 : c = 9 := hTV
      subst h9
      go_enter Tryd.func5, Tryd.ntmps5
      go_wp2_with fail
      refine (up_any _ HL.out).mono ?_
      rintro e w1 ⟨rfl, hb1⟩
      have HB1 := Lib.hid hb1
      have HV1 := Lib.hid (HV.out.below hb1)
      have HE1 := Lib.hid (HE.out.below hb1)
      clear hb1
      go_wp2_with fail
      refine (HT.out _ HV1.out).mono ?_
      rintro e w2 ⟨hb2, he⟩
      have he' : e = .returned (.tuple #[.int .i64 tk, .nilIface]) := he
      subst he'
      have HB2 := Lib.hid (HB1.out.trans (hb2.mono HB1.out.size))
      have HV2 := Lib.hid (HV1.out.below hb2)
      have HE2 := Lib.hid (HE1.out.below hb2)
      clear hb2 he
      go_wp2_with fail
      refine (HR.out _ HV2.out HE2.out).mono ?_
      rintro e w3 ⟨hb3, he⟩
      have he' : e = .returned (.tuple #[.agg #[.int .i64 0, .int .i64 0], .iface 40 (.int .i64 9)]) := he
      subst he'
      have HB3 := Lib.hid (HB2.out.trans (hb3.mono HB2.out.size))
      clear hb3 he
      go_wp2_with fail
      go_ret
      exact ⟨rfl, HB3.out.alloc HB3.out.size _⟩
    | ok vk vn =>
      have hk : tk = vk := hTV
      subst hk
      have hG : Good (.ok tk vn) := by
        rcases hA with ⟨k, n, h, hg⟩ | ⟨c, h, _⟩
        · rw [h]; exact hg
        · cases h
      clear hA hTV
      rcases hG with ⟨rfl, _⟩ | ⟨rfl, rfl | rfl⟩
      · go_enter Tryd.func5, Tryd.ntmps5
        go_wp2_with fail
        refine (up_any _ HL.out).mono ?_
        rintro e w1 ⟨rfl, hb1⟩
        have HB1 := Lib.hid hb1
        have HV1 := Lib.hid (HV.out.below hb1)
        have HE1 := Lib.hid (HE.out.below hb1)
        clear hb1
        go_wp2_with fail
        refine (HT.out _ HV1.out).mono ?_
        rintro e w2 ⟨hb2, he⟩
        have he' : e = .returned (.tuple #[.int .i64 1, .nilIface]) := he
        subst he'
        have HB2 := Lib.hid (HB1.out.trans (hb2.mono HB1.out.size))
        have HV2 := Lib.hid (HV1.out.below hb2)
        have HE2 := Lib.hid (HE1.out.below hb2)
        clear hb2 he
        go_wp2_with fail
        refine (HR.out _ HV2.out HE2.out).mono ?_
        rintro e w3 ⟨hb3, he⟩
        have he' : e = .returned (.tuple #[.agg #[.int .i64 1, .int .i64 vn], .nilIface]) := he
        subst he'
        have HB3 := Lib.hid (HB2.out.trans (hb3.mono HB2.out.size))
        clear hb3 he
        go_wp2_with fail
        go_ret
        exact ⟨rfl, HB3.out.alloc HB3.out.size _⟩
      · go_enter Tryd.func5, Tryd.ntmps5
        go_wp2_with fail
        refine (up_any _ HL.out).mono ?_
        rintro e w1 ⟨rfl, hb1⟩
        have HB1 := Lib.hid hb1
        have HV1 := Lib.hid (HV.out.below hb1)
        have HE1 := Lib.hid (HE.out.below hb1)
        clear hb1
        go_wp2_with fail
        refine (HT.out _ HV1.out).mono ?_
        rintro e w2 ⟨hb2, he⟩
        have he' : e = .returned (.tuple #[.int .i64 2, .nilIface]) := he
        subst he'
        have HB2 := Lib.hid (HB1.out.trans (hb2.mono HB1.out.size))
        have HV2 := Lib.hid (HV1.out.below hb2)
        have HE2 := Lib.hid (HE1.out.below hb2)
        clear hb2 he
        go_wp2_with fail
        refine (HR.out _ HV2.out HE2.out).mono ?_
        rintro e w3 ⟨hb3, he⟩
        have he' : e = .returned (.tuple #[.agg #[.int .i64 2, .int .i64 0], .nilIface]) := he
        subst he'
        have HB3 := Lib.hid (HB2.out.trans (hb3.mono HB2.out.size))
        clear hb3 he
        go_wp2_with fail
        go_ret
        exact ⟨rfl, HB3.out.alloc HB3.out.size _⟩
      · go_enter Tryd.func5, Tryd.ntmps5
        go_wp2_with fail
        refine (up_any _ HL.out).mono ?_
        rintro e w1 ⟨rfl, hb1⟩
        have HB1 := Lib.hid hb1
        have HV1 := Lib.hid (HV.out.below hb1)
        have HE1 := Lib.hid (HE.out.below hb1)
        clear hb1
        go_wp2_with fail
        refine (HT.out _ HV1.out).mono ?_
        rintro e w2 ⟨hb2, he⟩
        have he' : e = .returned (.tuple #[.int .i64 2, .nilIface]) := he
        subst he'
        have HB2 := Lib.hid (HB1.out.trans (hb2.mono HB1.out.size))
        have HV2 := Lib.hid (HV1.out.below hb2)
        have HE2 := Lib.hid (HE1.out.below hb2)
        clear hb2 he
        go_wp2_with fail
        refine (HR.out _ HV2.out HE2.out).mono ?_
        rintro e w3 ⟨hb3, he⟩
        have he' : e = .returned (.tuple #[.agg #[.int .i64 2, .int .i64 1], .nilIface]) := he
        subst he'
        have HB3 := Lib.hid (HB2.out.trans (hb3.mono HB2.out.size))
        clear hb3 he
        go_wp2_with fail
        go_ret
        exact ⟨rfl, HB3.out.alloc HB3.out.size _⟩
end Go.Proofs.YtoiflidlnajbdaaDoor
