/- The walk of the law ExprBoth where one of the texts has no value. -/
import Derived.Test.YtoiflidlnajbdaaDoorElaw4
namespace Go.Proofs.YtoiflidlnajbdaaDoor
open Go.ChangeShapes Go.WideShapes Go.ChangeAt Go.RowKit
set_option linter.unusedVariables false

set_option maxHeartbeats 8000000 in
set_option maxRecDepth 100000 in
theorem law4_e (a b : ByteArray) (eA : Option Addr) (ecap : Nat) (env : List Int) (w : World) (hL : Laid w) (ha : a.size ≤ 90) (hb : b.size ≤ 90) (hel : env.length ≤ 100) (hE : NumsAt w (.slice eA env.length ecap) env) (hef : ∀ x ∈ env, F64 x) (hW : worthOf a.data.toList env = none) :
    Calls Tryd.prog 6 #[.string a, .string b, .slice eA env.length ecap] w fun e w' => e = .returned (.bool true) ∧ Below w.heap.size w w' := by
  have h1 : decide ((90 : Int) < (a.size : Int)) = false := by simp; omega
  have h2 : decide ((90 : Int) < (b.size : Int)) = false := by simp; omega
  have h3 : decide ((100 : Int) < (env.length : Int)) = false := by simp; omega
  have d1 : decide (90 < a.size) = false := by simpa using ha
  have d2 : decide (90 < b.size) = false := by simpa using hb
  have d3 : decide (100 < env.length) = false := by simpa using hel
  have hnn := neq_nil_nil
  have hnc := fun p W => neq_code_any p W
  have hns := fun p W => neq_spot_any p W
  have hee := eqv_nil
  have HE := Lib.hid hE
  have HL := Lib.hid hL
  have HA := Lib.hid (fun W (hW : Laid W) hX => of_worth a (.slice eA env.length ecap) env W hW (by omega) hX (by omega) hef)
  have HB := Lib.hid (fun W (hW : Laid W) hX => of_worth b (.slice eA env.length ecap) env W hW (by omega) hX (by omega) hef)
  have HS := Lib.hid (fun Y (hY : Y.size ≤ 1000000) W (hW : Laid W) hX => of_weak Y (.slice eA env.length ecap) env W hW hY hX (by omega) hef)
  have HPA := Lib.hid (fun W (hW : Laid W) => parse_weak a W hW (by omega))
  have HPB := Lib.hid (fun W (hW : Laid W) => parse_weak b W hW (by omega))
  have HSZ := Lib.hid (fun s => show (⟨#[40]⟩ ++ a ++ ⟨#[41, s, 40]⟩ ++ b ++ ⟨#[41]⟩ : ByteArray).size ≤ 1000000 from by rw [Lib.size_eq, both_bytes, both_len, ← Lib.size_eq, ← Lib.size_eq]; omega)
  have HWA := Lib.hid hW
  have HB' := Lib.hid (fun W (hW : Laid W) hX => of_weak b (.slice eA env.length ecap) env W hW (by omega) hX (by omega) hef)
  clear HB
  have HB := HB'
  clear hL hE hW hef
  go_enter Tryd.func6, Tryd.ntmps6
  go_wp2_with fail
  refine (up_any _ HL.out).mono ?_
  rintro e w1 ⟨rfl, hb1⟩
  have HB1 := Lib.hid hb1
  have HL1 := Lib.hid (HL.out.after hb1)
  have HE1 := Lib.hid (HE.out.below hb1)
  clear hb1
  go_wp2_with fail
  refine (HA.out _ HL1.out HE1.out).mono ?_
  intro e w2 hA
  rw [HWA.out] at hA
  obtain ⟨hb2, xer, rfl, xp, rfl | rfl⟩ := hA
  all_goals
    have hba2 : Below w2.heap.size w2 (w2.alloc (.cells #[.int .i64 0, .int .i64 0] 34)) := (Below.refl _ _).alloc (Nat.le_refl _) _
    have HB2 := Lib.hid ((HB1.out.trans (hb2.mono HB1.out.size)).alloc (Nat.le_trans HB1.out.size hb2.size) (.cells #[.int .i64 0, .int .i64 0] 34))
    have HL2 := Lib.hid ((HL1.out.after hb2).after hba2)
    have HE2 := Lib.hid ((HE1.out.below hb2).below hba2)
    have HXB2 := Lib.hid (Blk.new w2 34 #[.int .i64 0, .int .i64 0])
    clear hb2 hba2
    go_wp2_with fail
    refine (HB.out _ HL2.out HE2.out).mono ?_
    intro e w3 hA
    obtain ⟨hb3, bk, bn, ber, rfl⟩ := hA
    have hba3 : Below w3.heap.size w3 (w3.alloc (.cells #[.int .i64 bk, .int .i64 bn] 34)) := (Below.refl _ _).alloc (Nat.le_refl _) _
    have HB3 := Lib.hid ((HB2.out.trans (hb3.mono HB2.out.size)).alloc (Nat.le_trans HB2.out.size hb3.size) (.cells #[.int .i64 bk, .int .i64 bn] 34))
    have HL3 := Lib.hid ((HL2.out.after hb3).after hba3)
    have HE3 := Lib.hid ((HE2.out.below hb3).below hba3)
    have HXB3 := Lib.hid (((HXB2.out.below hb3 HXB2.out.lt)).alloc (.cells #[.int .i64 bk, .int .i64 bn] 34))
    have HYB3 := Lib.hid (Blk.new w3 34 #[.int .i64 bk, .int .i64 bn])
    clear hb3 hba3
    go_wp2_with fail
    refine (HS.out _ (HSZ.out 43) _ HL3.out HE3.out).mono ?_
    rintro e w4 ⟨hb4, sk, sn, ser, rfl⟩
    have hba4 : Below w4.heap.size w4 (w4.alloc (.cells #[.int .i64 sk, .int .i64 sn] 34)) := (Below.refl _ _).alloc (Nat.le_refl _) _
    have HB4 := Lib.hid ((HB3.out.trans (hb4.mono HB3.out.size)).alloc (Nat.le_trans HB3.out.size hb4.size) (.cells #[.int .i64 sk, .int .i64 sn] 34))
    have HL4 := Lib.hid ((HL3.out.after hb4).after hba4)
    have HE4 := Lib.hid ((HE3.out.below hb4).below hba4)
    have HXB4 := Lib.hid (((HXB3.out.below hb4 HXB3.out.lt)).alloc (.cells #[.int .i64 sk, .int .i64 sn] 34))
    have HYB4 := Lib.hid (((HYB3.out.below hb4 HYB3.out.lt)).alloc (.cells #[.int .i64 sk, .int .i64 sn] 34))
    clear hb4 hba4
    go_wp2_with fail
    refine (HS.out _ (HSZ.out 60) _ HL4.out HE4.out).mono ?_
    rintro e w5 ⟨hb5, tk, tn, ter, rfl⟩
    have hba5 : Below w5.heap.size w5 (w5.alloc (.cells #[.int .i64 tk, .int .i64 tn] 34)) := (Below.refl _ _).alloc (Nat.le_refl _) _
    have HB5 := Lib.hid ((HB4.out.trans (hb5.mono HB4.out.size)).alloc (Nat.le_trans HB4.out.size hb5.size) (.cells #[.int .i64 tk, .int .i64 tn] 34))
    have HL5 := Lib.hid ((HL4.out.after hb5).after hba5)
    have HE5 := Lib.hid ((HE4.out.below hb5).below hba5)
    have HXB5 := Lib.hid (((HXB4.out.below hb5 HXB4.out.lt)).alloc (.cells #[.int .i64 tk, .int .i64 tn] 34))
    have HYB5 := Lib.hid (((HYB4.out.below hb5 HYB4.out.lt)).alloc (.cells #[.int .i64 tk, .int .i64 tn] 34))
    clear hb5 hba5
    go_wp2_with fail
    refine (HPA.out _ HL5.out).mono ?_
    rintro e w6 ⟨hb6, pv, per, rfl⟩
    have HB6 := Lib.hid (HB5.out.trans (hb6.mono HB5.out.size))
    have HL6 := Lib.hid (HL5.out.after hb6)
    have HXB6 := Lib.hid (HXB5.out.below hb6 HXB5.out.lt)
    have HYB6 := Lib.hid (HYB5.out.below hb6 HYB5.out.lt)
    clear hb6
    go_wp2_with fail
    refine (HPB.out _ HL6.out).mono ?_
    rintro e w7 ⟨hb7, qv, qer, rfl⟩
    have HB7 := Lib.hid (HB6.out.trans (hb7.mono HB6.out.size))
    have HL7 := Lib.hid (HL6.out.after hb7)
    have HXB7 := Lib.hid (HXB6.out.below hb7 HXB6.out.lt)
    have HYB7 := Lib.hid (HYB6.out.below hb7 HYB6.out.lt)
    clear hb7
    obtain ⟨⟨x0, x1⟩, _⟩ := HXB7.out.facts2
    obtain ⟨⟨y0, y1⟩, _⟩ := HYB7.out.facts2
    go_wp2
    go_ret
    exact ⟨rfl, HB7.out⟩
set_option maxHeartbeats 8000000 in
set_option maxRecDepth 100000 in
theorem law4_f (a b : ByteArray) (eA : Option Addr) (ecap : Nat) (env : List Int) (w : World) (hL : Laid w) (ha : a.size ≤ 90) (hb : b.size ≤ 90) (hel : env.length ≤ 100) (hE : NumsAt w (.slice eA env.length ecap) env) (hef : ∀ x ∈ env, F64 x) (k n : Int) (hW : worthOf a.data.toList env = some (k, n)) (hW2 : worthOf b.data.toList env = none) :
    Calls Tryd.prog 6 #[.string a, .string b, .slice eA env.length ecap] w fun e w' => e = .returned (.bool true) ∧ Below w.heap.size w w' := by
  have h1 : decide ((90 : Int) < (a.size : Int)) = false := by simp; omega
  have h2 : decide ((90 : Int) < (b.size : Int)) = false := by simp; omega
  have h3 : decide ((100 : Int) < (env.length : Int)) = false := by simp; omega
  have d1 : decide (90 < a.size) = false := by simpa using ha
  have d2 : decide (90 < b.size) = false := by simpa using hb
  have d3 : decide (100 < env.length) = false := by simpa using hel
  have hnn := neq_nil_nil
  have hnc := fun p W => neq_code_any p W
  have hns := fun p W => neq_spot_any p W
  have hee := eqv_nil
  have HE := Lib.hid hE
  have HL := Lib.hid hL
  have HA := Lib.hid (fun W (hW : Laid W) hX => of_worth a (.slice eA env.length ecap) env W hW (by omega) hX (by omega) hef)
  have HB := Lib.hid (fun W (hW : Laid W) hX => of_worth b (.slice eA env.length ecap) env W hW (by omega) hX (by omega) hef)
  have HS := Lib.hid (fun Y (hY : Y.size ≤ 1000000) W (hW : Laid W) hX => of_weak Y (.slice eA env.length ecap) env W hW hY hX (by omega) hef)
  have HPA := Lib.hid (fun W (hW : Laid W) => parse_weak a W hW (by omega))
  have HPB := Lib.hid (fun W (hW : Laid W) => parse_weak b W hW (by omega))
  have HSZ := Lib.hid (fun s => show (⟨#[40]⟩ ++ a ++ ⟨#[41, s, 40]⟩ ++ b ++ ⟨#[41]⟩ : ByteArray).size ≤ 1000000 from by rw [Lib.size_eq, both_bytes, both_len, ← Lib.size_eq, ← Lib.size_eq]; omega)
  have HWA := Lib.hid hW
  have HWB := Lib.hid hW2
  clear hL hE hW hW2 hef
  go_enter Tryd.func6, Tryd.ntmps6
  go_wp2_with fail
  refine (up_any _ HL.out).mono ?_
  rintro e w1 ⟨rfl, hb1⟩
  have HB1 := Lib.hid hb1
  have HL1 := Lib.hid (HL.out.after hb1)
  have HE1 := Lib.hid (HE.out.below hb1)
  clear hb1
  go_wp2_with fail
  refine (HA.out _ HL1.out HE1.out).mono ?_
  intro e w2 hA
  rw [HWA.out] at hA
  obtain ⟨hb2, he⟩ := hA
  have he' : e = .returned (.tuple #[.agg #[.int .i64 k, .int .i64 n], .nilIface]) := he
  subst he'
  clear he
  have hba2 : Below w2.heap.size w2 (w2.alloc (.cells #[.int .i64 k, .int .i64 n] 34)) := (Below.refl _ _).alloc (Nat.le_refl _) _
  have HB2 := Lib.hid ((HB1.out.trans (hb2.mono HB1.out.size)).alloc (Nat.le_trans HB1.out.size hb2.size) (.cells #[.int .i64 k, .int .i64 n] 34))
  have HL2 := Lib.hid ((HL1.out.after hb2).after hba2)
  have HE2 := Lib.hid ((HE1.out.below hb2).below hba2)
  have HXB2 := Lib.hid (Blk.new w2 34 #[.int .i64 k, .int .i64 n])
  clear hb2 hba2
  go_wp2_with fail
  refine (HB.out _ HL2.out HE2.out).mono ?_
  intro e w3 hA
  rw [HWB.out] at hA
  obtain ⟨hb3, yer, rfl, yp, rfl | rfl⟩ := hA
  all_goals
    have hba3 : Below w3.heap.size w3 (w3.alloc (.cells #[.int .i64 0, .int .i64 0] 34)) := (Below.refl _ _).alloc (Nat.le_refl _) _
    have HB3 := Lib.hid ((HB2.out.trans (hb3.mono HB2.out.size)).alloc (Nat.le_trans HB2.out.size hb3.size) (.cells #[.int .i64 0, .int .i64 0] 34))
    have HL3 := Lib.hid ((HL2.out.after hb3).after hba3)
    have HE3 := Lib.hid ((HE2.out.below hb3).below hba3)
    have HXB3 := Lib.hid (((HXB2.out.below hb3 HXB2.out.lt)).alloc (.cells #[.int .i64 0, .int .i64 0] 34))
    have HYB3 := Lib.hid (Blk.new w3 34 #[.int .i64 0, .int .i64 0])
    clear hb3 hba3
    go_wp2_with fail
    refine (HS.out _ (HSZ.out 43) _ HL3.out HE3.out).mono ?_
    rintro e w4 ⟨hb4, sk, sn, ser, rfl⟩
    have hba4 : Below w4.heap.size w4 (w4.alloc (.cells #[.int .i64 sk, .int .i64 sn] 34)) := (Below.refl _ _).alloc (Nat.le_refl _) _
    have HB4 := Lib.hid ((HB3.out.trans (hb4.mono HB3.out.size)).alloc (Nat.le_trans HB3.out.size hb4.size) (.cells #[.int .i64 sk, .int .i64 sn] 34))
    have HL4 := Lib.hid ((HL3.out.after hb4).after hba4)
    have HE4 := Lib.hid ((HE3.out.below hb4).below hba4)
    have HXB4 := Lib.hid (((HXB3.out.below hb4 HXB3.out.lt)).alloc (.cells #[.int .i64 sk, .int .i64 sn] 34))
    have HYB4 := Lib.hid (((HYB3.out.below hb4 HYB3.out.lt)).alloc (.cells #[.int .i64 sk, .int .i64 sn] 34))
    clear hb4 hba4
    go_wp2_with fail
    refine (HS.out _ (HSZ.out 60) _ HL4.out HE4.out).mono ?_
    rintro e w5 ⟨hb5, tk, tn, ter, rfl⟩
    have hba5 : Below w5.heap.size w5 (w5.alloc (.cells #[.int .i64 tk, .int .i64 tn] 34)) := (Below.refl _ _).alloc (Nat.le_refl _) _
    have HB5 := Lib.hid ((HB4.out.trans (hb5.mono HB4.out.size)).alloc (Nat.le_trans HB4.out.size hb5.size) (.cells #[.int .i64 tk, .int .i64 tn] 34))
    have HL5 := Lib.hid ((HL4.out.after hb5).after hba5)
    have HE5 := Lib.hid ((HE4.out.below hb5).below hba5)
    have HXB5 := Lib.hid (((HXB4.out.below hb5 HXB4.out.lt)).alloc (.cells #[.int .i64 tk, .int .i64 tn] 34))
    have HYB5 := Lib.hid (((HYB4.out.below hb5 HYB4.out.lt)).alloc (.cells #[.int .i64 tk, .int .i64 tn] 34))
    clear hb5 hba5
    go_wp2_with fail
    refine (HPA.out _ HL5.out).mono ?_
    rintro e w6 ⟨hb6, pv, per, rfl⟩
    have HB6 := Lib.hid (HB5.out.trans (hb6.mono HB5.out.size))
    have HL6 := Lib.hid (HL5.out.after hb6)
    have HXB6 := Lib.hid (HXB5.out.below hb6 HXB5.out.lt)
    have HYB6 := Lib.hid (HYB5.out.below hb6 HYB5.out.lt)
    clear hb6
    go_wp2_with fail
    refine (HPB.out _ HL6.out).mono ?_
    rintro e w7 ⟨hb7, qv, qer, rfl⟩
    have HB7 := Lib.hid (HB6.out.trans (hb7.mono HB6.out.size))
    have HL7 := Lib.hid (HL6.out.after hb7)
    have HXB7 := Lib.hid (HXB6.out.below hb7 HXB6.out.lt)
    have HYB7 := Lib.hid (HYB6.out.below hb7 HYB6.out.lt)
    clear hb7
    obtain ⟨⟨x0, x1⟩, _⟩ := HXB7.out.facts2
    obtain ⟨⟨y0, y1⟩, _⟩ := HYB7.out.facts2
    go_wp2
    go_ret
    exact ⟨rfl, HB7.out⟩
end Go.Proofs.YtoiflidlnajbdaaDoor
