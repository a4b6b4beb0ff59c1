/- The walk of the law ExprValues: true for any tokens and any variables. -/
import Derived.Test.YtoiflidlnajbdaaDoorEup
import Derived.Test.YtoiflidlnajbdaaDoorErel
import Derived.Test.YtoiflidlnajbdaaDoorEcode
import Derived.Laws.StructEq
namespace Go.Proofs.YtoiflidlnajbdaaDoor
open Go.ChangeShapes Go.WideShapes Go.ChangeAt Go.RowKit
set_option linter.unusedVariables false

theorem fields34 : Tryd.prog.underlying 34 = some (.struct (Tryd.prog.fieldsOf 34)) := by kernel_rfl
theorem held34 : Tryd.prog.stoodInHeld 34 = false := by kernel_rfl
theorem eqv_same (a b : Int) (w : World) : (binOp .eql 34 (.agg #[.int .i64 a, .int .i64 b]) (.agg #[.int .i64 a, .int .i64 b])).run Tryd.prog w = .ok (.bool true) w := by
  rw [run_eql_struct, run_equalIn_agg _ _ _ _ _ fields34 held34]
  simp [go_sem]
set_option maxHeartbeats 2000000 in
set_option maxRecDepth 100000 in
theorem law2_far (A eA : Option Addr) (n cap len ecap : Nat) (w : World) (hL : Laid w) (hs : n ≤ 9223372036854775807) (hs2 : len ≤ 9223372036854775807) (h : 300 < n ∨ (n ≤ 300 ∧ 100 < len)) :
    Calls Tryd.prog 4 #[.slice A n cap, .slice eA len ecap] w fun e w' => e = .returned (.bool true) ∧ Below w.heap.size w w' := by
  rcases h with h | ⟨h, h2⟩
  · have hd : decide ((300 : Int) < (n : Int)) = true := by simp; omega
    have hd2 : decide (300 < n) = true := by simpa using h
    go_enter Tryd.func4, Tryd.ntmps4
    go_wp2_with fail
    refine (up_any _ hL).mono ?_
    rintro e w1 ⟨rfl, hb1⟩
    have HB1 := Lib.hid hb1
    clear hb1
    go_wp2
    go_ret
    exact ⟨rfl, HB1.out⟩
  · have hd : decide ((300 : Int) < (n : Int)) = false := by simp; omega
    have hd2 : decide (300 < n) = false := by simpa using h
    have hd3 : decide ((100 : Int) < (len : Int)) = true := by simp; omega
    have hd4 : decide (100 < len) = true := by simpa using h2
    go_enter Tryd.func4, Tryd.ntmps4
    go_wp2_with fail
    refine (up_any _ hL).mono ?_
    rintro e w1 ⟨rfl, hb1⟩
    have HB1 := Lib.hid hb1
    clear hb1
    go_wp2
    go_ret
    exact ⟨rfl, HB1.out⟩
set_option maxHeartbeats 4000000 in
set_option maxRecDepth 100000 in
theorem law2_near (A eA : Option Addr) (cap ecap : Nat) (ts : List Tk) (env : List Int) (w : World) (hL : Laid w) (h : ts.length ≤ 300) (h2 : env.length ≤ 100) (hv : ToksAt w (.slice A ts.length cap) ts) (hE : NumsAt w (.slice eA env.length ecap) env) (hef : ∀ x ∈ env, F64 x) (hn : ∀ t ∈ ts, t.2.1 ≤ 9223372036854775807) :
    Calls Tryd.prog 4 #[.slice A ts.length cap, .slice eA env.length ecap] w fun e w' => e = .returned (.bool true) ∧ Below w.heap.size w w' := by
  have HT := Lib.hid (fun W hW hX => eval_any (.slice A ts.length cap) (.slice eA env.length ecap) ts env W hW (by omega) hX (by omega) hef hn)
  have HR := Lib.hid (fun W hW hX => reval_any (.slice A ts.length cap) (.slice eA env.length ecap) ts env W hW (by omega) hX (by omega) hef hn)
  have hA := ans_cases ⟨false, env, 0⟩ ts hn hef
  have hd : decide ((300 : Int) < (ts.length : Int)) = false := by simp; omega
  have hd2 : decide (300 < ts.length) = false := by simpa using h
  have hd3 : decide ((100 : Int) < (env.length : Int)) = false := by simp; omega
  have hd4 : decide (100 < env.length) = false := by simpa using h2
  generalize ans ⟨false, env, 0⟩ ts = a at *
  have HV := Lib.hid hv
  have HE := Lib.hid hE
  have HL := Lib.hid hL
  clear hv hn hL hE hef
  rcases hA with ⟨k, n, rfl, _⟩ | ⟨c, rfl, hc1, hc13⟩
  · have hse := eqv_same k n
    go_enter Tryd.func4, Tryd.ntmps4
    go_wp2_with fail
    refine (up_any _ HL.out).mono ?_
    rintro e w1 ⟨rfl, hb1⟩
    have HB1 := Lib.hid hb1
    have HV1 := Lib.hid (HV.out.below hb1)
    have HE1 := Lib.hid (HE.out.below hb1)
    clear hb1
    go_wp2_with fail
    refine (HT.out _ HV1.out HE1.out).mono ?_
    rintro e w2 ⟨hb2, he⟩
    have he' : e = .returned (.tuple #[.agg #[.int .i64 k, .int .i64 n], .nilIface]) := he
    subst he'
    have hba : Below w2.heap.size w2 (w2.alloc (.cells #[.int .i64 k, .int .i64 n] 34)) := (Below.refl _ _).alloc (Nat.le_refl _) _
    have HB2 := Lib.hid ((HB1.out.trans (hb2.mono HB1.out.size)).alloc (Nat.le_trans HB1.out.size hb2.size) (.cells #[.int .i64 k, .int .i64 n] 34))
    have HV2 := Lib.hid ((HV1.out.below hb2).below hba)
    have HE2 := Lib.hid ((HE1.out.below hb2).below hba)
    have HVB := Lib.hid (Blk.new w2 34 #[.int .i64 k, .int .i64 n])
    clear hb2 he hba
    go_wp2_with fail
    refine (HR.out _ HV2.out HE2.out).mono ?_
    rintro e w3 ⟨rfl, hb3⟩
    have HB3 := Lib.hid (HB2.out.trans (hb3.mono HB2.out.size))
    have HVB3 := Lib.hid (HVB.out.below hb3 HVB.out.lt)
    obtain ⟨⟨v0, v1⟩, _⟩ := HVB3.out.facts2
    have hlt : w2.heap.size < w3.heap.size := HVB3.out.lt
    clear hb3
    simp only [Vl.kind, Vl.code, Vl.num]
    go_wp2_with fail
    refine (code_nil _).mono ?_
    rintro e w4 ⟨rfl, rfl⟩
    go_wp2
    go_ret
    exact ⟨rfl, HB3.out.alloc HB3.out.size _⟩
  · have hse := eqv_same 0 0
    have hcc : ((c : Int) == (c : Int)) = true := by simp
    go_enter Tryd.func4, Tryd.ntmps4
    go_wp2_with fail
    refine (up_any _ HL.out).mono ?_
    rintro e w1 ⟨rfl, hb1⟩
    have HB1 := Lib.hid hb1
    have HV1 := Lib.hid (HV.out.below hb1)
    have HE1 := Lib.hid (HE.out.below hb1)
    clear hb1
    go_wp2_with fail
    refine (HT.out _ HV1.out HE1.out).mono ?_
    rintro e w2 ⟨hb2, he⟩
    have he' : e = .returned (.tuple #[.agg #[.int .i64 0, .int .i64 0], .iface 40 (.int .i64 (c : Int))]) := he
    subst he'
    have hba : Below w2.heap.size w2 (w2.alloc (.cells #[.int .i64 0, .int .i64 0] 34)) := (Below.refl _ _).alloc (Nat.le_refl _) _
    have HB2 := Lib.hid ((HB1.out.trans (hb2.mono HB1.out.size)).alloc (Nat.le_trans HB1.out.size hb2.size) (.cells #[.int .i64 0, .int .i64 0] 34))
    have HV2 := Lib.hid ((HV1.out.below hb2).below hba)
    have HE2 := Lib.hid ((HE1.out.below hb2).below hba)
    have HVB := Lib.hid (Blk.new w2 34 #[.int .i64 0, .int .i64 0])
    clear hb2 he hba
    go_wp2_with fail
    refine (HR.out _ HV2.out HE2.out).mono ?_
    rintro e w3 ⟨rfl, hb3⟩
    have HB3 := Lib.hid (HB2.out.trans (hb3.mono HB2.out.size))
    have HVB3 := Lib.hid (HVB.out.below hb3 HVB.out.lt)
    obtain ⟨⟨v0, v1⟩, _⟩ := HVB3.out.facts2
    have hlt : w2.heap.size < w3.heap.size := HVB3.out.lt
    clear hb3
    simp only [Vl.kind, Vl.code, Vl.num]
    go_wp2_with fail
    refine (code_any c _ hc1 hc13).mono ?_
    rintro e w4 ⟨rfl, rfl⟩
    go_wp2
    go_ret
    exact ⟨rfl, HB3.out.alloc HB3.out.size _⟩
end Go.Proofs.YtoiflidlnajbdaaDoor
