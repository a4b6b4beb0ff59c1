/- The walk of the law ExprBoth where both are numbers. -/
import Derived.Test.YtoiflidlnajbdaaDoorElaw4
namespace Go.Proofs.YtoiflidlnajbdaaDoor
open Go.ChangeShapes Go.WideShapes Go.ChangeAt Go.RowKit
set_option linter.unusedVariables false

set_option maxHeartbeats 8000000 in
set_option maxRecDepth 100000 in
theorem law4_g (a b : ByteArray) (eA : Option Addr) (ecap : Nat) (env : List Int) (w : World) (hL : Laid w) (ha : a.size ≤ 90) (hb : b.size ≤ 90) (hel : env.length ≤ 100) (hE : NumsAt w (.slice eA env.length ecap) env) (hef : ∀ x ∈ env, F64 x) (p q : List Tk) (x y : Int) (hW : worthOf a.data.toList env = some (1, x)) (hW2 : worthOf b.data.toList env = some (1, y)) (pa : parseAns a.data.toList = .toks p) (pb : parseAns b.data.toList = .toks q) (hpq : p.length + q.length ≤ 99) (hs3 : worthOf (bothL 43 a.data.toList b.data.toList) env = some (1, wrap64 (x + y))) (hs8 : worthOf (bothL 60 a.data.toList b.data.toList) env = some (2, truN (decide (x < y)))) :
    Calls Tryd.prog 6 #[.string a, .string b, .slice eA env.length ecap] w fun e w' => e = .returned (.bool true) ∧ Below w.heap.size w w' := by
  have h1 : decide ((90 : Int) < (a.size : Int)) = false := by simp; omega
  have h2 : decide ((90 : Int) < (b.size : Int)) = false := by simp; omega
  have h3 : decide ((100 : Int) < (env.length : Int)) = false := by simp; omega
  have d1 : decide (90 < a.size) = false := by simpa using ha
  have d2 : decide (90 < b.size) = false := by simpa using hb
  have d3 : decide (100 < env.length) = false := by simpa using hel
  have hnn := neq_nil_nil
  have hnc := fun p W => neq_code_any p W
  have hns := fun p W => neq_spot_any p W
  have hee := eqv_nil
  have HE := Lib.hid hE
  have HL := Lib.hid hL
  have HA := Lib.hid (fun W (hW : Laid W) hX => of_worth a (.slice eA env.length ecap) env W hW (by omega) hX (by omega) hef)
  have HB := Lib.hid (fun W (hW : Laid W) hX => of_worth b (.slice eA env.length ecap) env W hW (by omega) hX (by omega) hef)
  have HPA := Lib.hid (fun W (hW : Laid W) => parse_good a p W hW (by omega) pa)
  have HPB := Lib.hid (fun W (hW : Laid W) => parse_good b q W hW (by omega) pb)
  have HSZ : ∀ s (Y : ByteArray), Y.data.toList = bothL s a.data.toList b.data.toList → Y.size ≤ 1000000 := fun s Y hY => by rw [Lib.size_eq, hY, both_len, ← Lib.size_eq, ← Lib.size_eq]; omega
  have HS3 := Lib.hid (fun Y (hY : Y.data.toList = bothL 43 a.data.toList b.data.toList) W (hW : Laid W) hX => (of_worth Y (.slice eA env.length ecap) env W hW (HSZ 43 Y hY) hX (by omega) hef).mono (R' := fun e w' => e = .returned (.tuple #[.agg #[.int .i64 1, .int .i64 (wrap64 (x + y))], .nilIface]) ∧ Below W.heap.size W w') fun e w' h => by rw [hY, hs3] at h; exact ⟨h.2, h.1⟩)
  have HS8 := Lib.hid (fun Y (hY : Y.data.toList = bothL 60 a.data.toList b.data.toList) W (hW : Laid W) hX => (of_worth Y (.slice eA env.length ecap) env W hW (HSZ 60 Y hY) hX (by omega) hef).mono (R' := fun e w' => e = .returned (.tuple #[.agg #[.int .i64 2, .int .i64 (truN (decide (x < y)))], .nilIface]) ∧ Below W.heap.size W w') fun e w' h => by rw [hY, hs8] at h; exact ⟨h.2, h.1⟩)
  have HWA := Lib.hid hW
  have HWB := Lib.hid hW2
  have e1 : decide ((99 : Int) < (p.length : Int) + (q.length : Int)) = false := by simp; omega
  have e2 : ¬ (99 : Int) < (p.length : Int) + (q.length : Int) := by omega
  have hse := eqv_sameB 1 (wrap64 (x + y))
  clear hL hE hW hW2 hef pa pb HSZ hs3 hs8
  by_cases hxy : x < y
  · have hd : decide (x < y) = true := by simpa using hxy
    have hse2 := eqv_sameB 2 1
    rw [hd, show truN true = 1 from rfl] at HS8
    go_enter Tryd.func6, Tryd.ntmps6
    go_wp2_with fail
    refine (up_any _ HL.out).mono ?_
    rintro e w1 ⟨rfl, hb1⟩
    have HB1 := Lib.hid hb1
    have HL1 := Lib.hid (HL.out.after hb1)
    have HE1 := Lib.hid (HE.out.below hb1)
    clear hb1
    go_wp2_with fail
    refine (HA.out _ HL1.out HE1.out).mono ?_
    intro e w2 hA
    rw [HWA.out] at hA
    obtain ⟨hb2, he⟩ := hA
    have he' : e = .returned (.tuple #[.agg #[.int .i64 1, .int .i64 x], .nilIface]) := he
    subst he'
    clear he
    have hba2 : Below w2.heap.size w2 (w2.alloc (.cells #[.int .i64 1, .int .i64 x] 34)) := (Below.refl _ _).alloc (Nat.le_refl _) _
    have HB2 := Lib.hid ((HB1.out.trans (hb2.mono HB1.out.size)).alloc (Nat.le_trans HB1.out.size hb2.size) (.cells #[.int .i64 1, .int .i64 x] 34))
    have HL2 := Lib.hid ((HL1.out.after hb2).after hba2)
    have HE2 := Lib.hid ((HE1.out.below hb2).below hba2)
    have HXB2 := Lib.hid (Blk.new w2 34 #[.int .i64 1, .int .i64 x])
    clear hb2 hba2
    go_wp2_with fail
    refine (HB.out _ HL2.out HE2.out).mono ?_
    intro e w3 hA
    rw [HWB.out] at hA
    obtain ⟨hb3, he⟩ := hA
    have he' : e = .returned (.tuple #[.agg #[.int .i64 1, .int .i64 y], .nilIface]) := he
    subst he'
    clear he
    have hba3 : Below w3.heap.size w3 (w3.alloc (.cells #[.int .i64 1, .int .i64 y] 34)) := (Below.refl _ _).alloc (Nat.le_refl _) _
    have HB3 := Lib.hid ((HB2.out.trans (hb3.mono HB2.out.size)).alloc (Nat.le_trans HB2.out.size hb3.size) (.cells #[.int .i64 1, .int .i64 y] 34))
    have HL3 := Lib.hid ((HL2.out.after hb3).after hba3)
    have HE3 := Lib.hid ((HE2.out.below hb3).below hba3)
    have HXB3 := Lib.hid (((HXB2.out.below hb3 HXB2.out.lt)).alloc (.cells #[.int .i64 1, .int .i64 y] 34))
    have HYB3 := Lib.hid (Blk.new w3 34 #[.int .i64 1, .int .i64 y])
    clear hb3 hba3
    go_wp2_with fail
    refine (HS3.out _ (both_bytes 43 a b) _ HL3.out HE3.out).mono ?_
    rintro e w4 ⟨rfl, hb4⟩
    have hba4 : Below w4.heap.size w4 (w4.alloc (.cells #[.int .i64 1, .int .i64 (wrap64 (x + y))] 34)) := (Below.refl _ _).alloc (Nat.le_refl _) _
    have HB4 := Lib.hid ((HB3.out.trans (hb4.mono HB3.out.size)).alloc (Nat.le_trans HB3.out.size hb4.size) (.cells #[.int .i64 1, .int .i64 (wrap64 (x + y))] 34))
    have HL4 := Lib.hid ((HL3.out.after hb4).after hba4)
    have HE4 := Lib.hid ((HE3.out.below hb4).below hba4)
    have HXB4 := Lib.hid (((HXB3.out.below hb4 HXB3.out.lt)).alloc (.cells #[.int .i64 1, .int .i64 (wrap64 (x + y))] 34))
    have HYB4 := Lib.hid (((HYB3.out.below hb4 HYB3.out.lt)).alloc (.cells #[.int .i64 1, .int .i64 (wrap64 (x + y))] 34))
    have HSB4 := Lib.hid (Blk.new w4 34 #[.int .i64 1, .int .i64 (wrap64 (x + y))])
    clear hb4 hba4
    go_wp2_with fail
    refine (HS8.out _ (both_bytes 60 a b) _ HL4.out HE4.out).mono ?_
    rintro e w5 ⟨rfl, hb5⟩
    have hba5 : Below w5.heap.size w5 (w5.alloc (.cells #[.int .i64 2, .int .i64 1] 34)) := (Below.refl _ _).alloc (Nat.le_refl _) _
    have HB5 := Lib.hid ((HB4.out.trans (hb5.mono HB4.out.size)).alloc (Nat.le_trans HB4.out.size hb5.size) (.cells #[.int .i64 2, .int .i64 1] 34))
    have HL5 := Lib.hid ((HL4.out.after hb5).after hba5)
    have HE5 := Lib.hid ((HE4.out.below hb5).below hba5)
    have HXB5 := Lib.hid (((HXB4.out.below hb5 HXB4.out.lt)).alloc (.cells #[.int .i64 2, .int .i64 1] 34))
    have HYB5 := Lib.hid (((HYB4.out.below hb5 HYB4.out.lt)).alloc (.cells #[.int .i64 2, .int .i64 1] 34))
    have HSB5 := Lib.hid (((HSB4.out.below hb5 HSB4.out.lt)).alloc (.cells #[.int .i64 2, .int .i64 1] 34))
    have HTB5 := Lib.hid (Blk.new w5 34 #[.int .i64 2, .int .i64 1])
    clear hb5 hba5
    go_wp2_with fail
    refine (HPA.out _ HL5.out).mono ?_
    rintro e w6 ⟨hb6, pA, pcap, rfl⟩
    have HB6 := Lib.hid (HB5.out.trans (hb6.mono HB5.out.size))
    have HL6 := Lib.hid (HL5.out.after hb6)
    have HXB6 := Lib.hid (HXB5.out.below hb6 HXB5.out.lt)
    have HYB6 := Lib.hid (HYB5.out.below hb6 HYB5.out.lt)
    have HSB6 := Lib.hid (HSB5.out.below hb6 HSB5.out.lt)
    have HTB6 := Lib.hid (HTB5.out.below hb6 HTB5.out.lt)
    clear hb6
    go_wp2_with fail
    refine (HPB.out _ HL6.out).mono ?_
    rintro e w7 ⟨hb7, qA, qcap, rfl⟩
    have HB7 := Lib.hid (HB6.out.trans (hb7.mono HB6.out.size))
    have HL7 := Lib.hid (HL6.out.after hb7)
    have HXB7 := Lib.hid (HXB6.out.below hb7 HXB6.out.lt)
    have HYB7 := Lib.hid (HYB6.out.below hb7 HYB6.out.lt)
    have HSB7 := Lib.hid (HSB6.out.below hb7 HSB6.out.lt)
    have HTB7 := Lib.hid (HTB6.out.below hb7 HTB6.out.lt)
    clear hb7
    obtain ⟨⟨x0, x1⟩, _⟩ := HXB7.out.facts2
    obtain ⟨⟨y0, y1⟩, _⟩ := HYB7.out.facts2
    obtain ⟨⟨s0, s1⟩, _⟩ := HSB7.out.facts2
    obtain ⟨⟨t0, t1⟩, _⟩ := HTB7.out.facts2
    go_wp2
    go_ret
    exact ⟨rfl, HB7.out⟩
  · have hd : decide (x < y) = false := by simpa using hxy
    have hse2 := eqv_sameB 2 0
    rw [hd, show truN false = 0 from rfl] at HS8
    go_enter Tryd.func6, Tryd.ntmps6
    go_wp2_with fail
    refine (up_any _ HL.out).mono ?_
    rintro e w1 ⟨rfl, hb1⟩
    have HB1 := Lib.hid hb1
    have HL1 := Lib.hid (HL.out.after hb1)
    have HE1 := Lib.hid (HE.out.below hb1)
    clear hb1
    go_wp2_with fail
    refine (HA.out _ HL1.out HE1.out).mono ?_
    intro e w2 hA
    rw [HWA.out] at hA
    obtain ⟨hb2, he⟩ := hA
    have he' : e = .returned (.tuple #[.agg #[.int .i64 1, .int .i64 x], .nilIface]) := he
    subst he'
    clear he
    have hba2 : Below w2.heap.size w2 (w2.alloc (.cells #[.int .i64 1, .int .i64 x] 34)) := (Below.refl _ _).alloc (Nat.le_refl _) _
    have HB2 := Lib.hid ((HB1.out.trans (hb2.mono HB1.out.size)).alloc (Nat.le_trans HB1.out.size hb2.size) (.cells #[.int .i64 1, .int .i64 x] 34))
    have HL2 := Lib.hid ((HL1.out.after hb2).after hba2)
    have HE2 := Lib.hid ((HE1.out.below hb2).below hba2)
    have HXB2 := Lib.hid (Blk.new w2 34 #[.int .i64 1, .int .i64 x])
    clear hb2 hba2
    go_wp2_with fail
    refine (HB.out _ HL2.out HE2.out).mono ?_
    intro e w3 hA
    rw [HWB.out] at hA
    obtain ⟨hb3, he⟩ := hA
    have he' : e = .returned (.tuple #[.agg #[.int .i64 1, .int .i64 y], .nilIface]) := he
    subst he'
    clear he
    have hba3 : Below w3.heap.size w3 (w3.alloc (.cells #[.int .i64 1, .int .i64 y] 34)) := (Below.refl _ _).alloc (Nat.le_refl _) _
    have HB3 := Lib.hid ((HB2.out.trans (hb3.mono HB2.out.size)).alloc (Nat.le_trans HB2.out.size hb3.size) (.cells #[.int .i64 1, .int .i64 y] 34))
    have HL3 := Lib.hid ((HL2.out.after hb3).after hba3)
    have HE3 := Lib.hid ((HE2.out.below hb3).below hba3)
    have HXB3 := Lib.hid (((HXB2.out.below hb3 HXB2.out.lt)).alloc (.cells #[.int .i64 1, .int .i64 y] 34))
    have HYB3 := Lib.hid (Blk.new w3 34 #[.int .i64 1, .int .i64 y])
    clear hb3 hba3
    go_wp2_with fail
    refine (HS3.out _ (both_bytes 43 a b) _ HL3.out HE3.out).mono ?_
    rintro e w4 ⟨rfl, hb4⟩
    have hba4 : Below w4.heap.size w4 (w4.alloc (.cells #[.int .i64 1, .int .i64 (wrap64 (x + y))] 34)) := (Below.refl _ _).alloc (Nat.le_refl _) _
    have HB4 := Lib.hid ((HB3.out.trans (hb4.mono HB3.out.size)).alloc (Nat.le_trans HB3.out.size hb4.size) (.cells #[.int .i64 1, .int .i64 (wrap64 (x + y))] 34))
    have HL4 := Lib.hid ((HL3.out.after hb4).after hba4)
    have HE4 := Lib.hid ((HE3.out.below hb4).below hba4)
    have HXB4 := Lib.hid (((HXB3.out.below hb4 HXB3.out.lt)).alloc (.cells #[.int .i64 1, .int .i64 (wrap64 (x + y))] 34))
    have HYB4 := Lib.hid (((HYB3.out.below hb4 HYB3.out.lt)).alloc (.cells #[.int .i64 1, .int .i64 (wrap64 (x + y))] 34))
    have HSB4 := Lib.hid (Blk.new w4 34 #[.int .i64 1, .int .i64 (wrap64 (x + y))])
    clear hb4 hba4
    go_wp2_with fail
    refine (HS8.out _ (both_bytes 60 a b) _ HL4.out HE4.out).mono ?_
    rintro e w5 ⟨rfl, hb5⟩
    have hba5 : Below w5.heap.size w5 (w5.alloc (.cells #[.int .i64 2, .int .i64 0] 34)) := (Below.refl _ _).alloc (Nat.le_refl _) _
    have HB5 := Lib.hid ((HB4.out.trans (hb5.mono HB4.out.size)).alloc (Nat.le_trans HB4.out.size hb5.size) (.cells #[.int .i64 2, .int .i64 0] 34))
    have HL5 := Lib.hid ((HL4.out.after hb5).after hba5)
    have HE5 := Lib.hid ((HE4.out.below hb5).below hba5)
    have HXB5 := Lib.hid (((HXB4.out.below hb5 HXB4.out.lt)).alloc (.cells #[.int .i64 2, .int .i64 0] 34))
    have HYB5 := Lib.hid (((HYB4.out.below hb5 HYB4.out.lt)).alloc (.cells #[.int .i64 2, .int .i64 0] 34))
    have HSB5 := Lib.hid (((HSB4.out.below hb5 HSB4.out.lt)).alloc (.cells #[.int .i64 2, .int .i64 0] 34))
    have HTB5 := Lib.hid (Blk.new w5 34 #[.int .i64 2, .int .i64 0])
    clear hb5 hba5
    go_wp2_with fail
    refine (HPA.out _ HL5.out).mono ?_
    rintro e w6 ⟨hb6, pA, pcap, rfl⟩
    have HB6 := Lib.hid (HB5.out.trans (hb6.mono HB5.out.size))
    have HL6 := Lib.hid (HL5.out.after hb6)
    have HXB6 := Lib.hid (HXB5.out.below hb6 HXB5.out.lt)
    have HYB6 := Lib.hid (HYB5.out.below hb6 HYB5.out.lt)
    have HSB6 := Lib.hid (HSB5.out.below hb6 HSB5.out.lt)
    have HTB6 := Lib.hid (HTB5.out.below hb6 HTB5.out.lt)
    clear hb6
    go_wp2_with fail
    refine (HPB.out _ HL6.out).mono ?_
    rintro e w7 ⟨hb7, qA, qcap, rfl⟩
    have HB7 := Lib.hid (HB6.out.trans (hb7.mono HB6.out.size))
    have HL7 := Lib.hid (HL6.out.after hb7)
    have HXB7 := Lib.hid (HXB6.out.below hb7 HXB6.out.lt)
    have HYB7 := Lib.hid (HYB6.out.below hb7 HYB6.out.lt)
    have HSB7 := Lib.hid (HSB6.out.below hb7 HSB6.out.lt)
    have HTB7 := Lib.hid (HTB6.out.below hb7 HTB6.out.lt)
    clear hb7
    obtain ⟨⟨x0, x1⟩, _⟩ := HXB7.out.facts2
    obtain ⟨⟨y0, y1⟩, _⟩ := HYB7.out.facts2
    obtain ⟨⟨s0, s1⟩, _⟩ := HSB7.out.facts2
    obtain ⟨⟨t0, t1⟩, _⟩ := HTB7.out.facts2
    go_wp2
    go_ret
    exact ⟨rfl, HB7.out⟩
end Go.Proofs.YtoiflidlnajbdaaDoor
