/- The law ActDoes returns true. -/
import Derived.Test.YtafcbgapllkghaaGreatDoorAup
import Derived.Test.YtafcbgapllkghaaGreatDoorAdh
namespace Go.Proofs.YtafcbgapllkghaaGreatDoor
open Go.ChangeShapes Go.WideShapes Go.ChangeAt Go.RowKit
set_option linter.unusedVariables false

set_option maxHeartbeats 4000000 in
set_option maxRecDepth 100000 in
theorem law1_any (v ve : Value) (l : List Ac) (env : List Int) (w : World) (hL : Laid w) (hA : ActsAt w v l) (hsl : Short l.length) (hE : NumsAt w ve env) (hef : ∀ x ∈ env, F64 x) :
    Calls Tryz.prog 3 #[v, ve] w fun e w' => e = .returned (.bool true) ∧ Below w.heap.size w w' := by
  have HU := Lib.hid (upA_any w hL)
  have HF := Lib.hid (fun (W : World) (h : Below w.heap.size w W) => few_acts v l W (hA.below h) hsl)
  have HDO := Lib.hid (fun (hf : fewAc l) (he : env.length ≤ 40) (W : World) (h : Below w.heap.size w W) => do_all v ve l env W (hL.after h) (hA.below h) hf.1 (fun a ha => Nat.le_trans (hf.2 a ha) (by decide)) (hE.below h) (by omega) hef)
  have HRD := Lib.hid (fun (hf : fewAc l) (he : env.length ≤ 40) (W : World) (h : Below w.heap.size w W) => rdo_all v ve l env W (hA.below h) hf.1 (fun a ha => Nat.le_trans (hf.2 a ha) (by decide)) (hE.below h) (by omega) hef)
  have HSH := Lib.hid (fun (hf : fewAc l) (he : env.length ≤ 40) => doL_short hf.1 he)
  obtain ⟨eA, ecap, rfl, _⟩ := hE
  obtain ⟨X, hX⟩ : ∃ X, X = doL l ⟨env, [], []⟩ := ⟨_, rfl⟩
  rw [← hX] at HDO HRD HSH
  clear hL hA hsl hef hX
  go_enter Tryz.func3, Tryz.ntmps3
  go_wp2_with fail
  refine HU.out.mono ?_
  rintro e w1 ⟨rfl, hb1⟩
  have HB1 := Lib.hid hb1
  clear hb1
  go_wp2_with fail
  refine (HF.out w1 HB1.out).mono ?_
  rintro e w2 ⟨⟨b, rfl, hf⟩, rfl⟩
  have HFW := Lib.hid hf
  clear hf
  cases b with
  | false =>
    go_wp2_with fail
    go_ret
    exact ⟨rfl, HB1.out⟩
  | true =>
    by_cases h40 : 40 < env.length
    · have hz1 : decide ((40 : Int) < (env.length : Int)) = true := by simp; omega
      have hz2 : decide (40 < env.length) = true := by simpa using h40
      clear h40
      go_wp2_with fail
      go_ret
      exact ⟨rfl, HB1.out⟩
    · have hz1 : decide ((40 : Int) < (env.length : Int)) = false := by simp; omega
      have hz2 : decide (40 < env.length) = false := by simpa using h40
      have HD := Lib.hid (HDO.out (HFW.out rfl) (by omega) w1 HB1.out)
      have HR := Lib.hid (fun (W : World) (h : Below w.heap.size w W) => HRD.out (HFW.out rfl) (by omega) W h)
      obtain ⟨s1, s2, s3⟩ := HSH.out (HFW.out rfl) (by omega)
      clear h40
      go_wp2_with fail
      refine HD.out.mono ?_
      rintro e w3 ⟨hb3, ve3, vo3, vi3, rfl, he3, ho3, hi3⟩
      have HB3 := Lib.hid (HB1.out.trans (hb3.mono HB1.out.size))
      have HE3 := Lib.hid he3.nums
      have HO3 := Lib.hid ho3.outs
      have HI3 := Lib.hid (list_of_own hi3)
      clear hb3 he3 ho3 hi3
      go_wp2_with fail
      refine (HR.out w3 HB3.out).mono ?_
      rintro e w4 ⟨hb4, ve4, vo4, vi4, rfl, he4, ho4, hi4⟩
      have HB4 := Lib.hid (HB3.out.trans (hb4.mono HB3.out.size))
      have HN := Lib.hid (nums_same ve3 ve4 X.env w4 (HE3.out.below hb4) he4.nums s1)
      have HOS := Lib.hid (fun (W : World) (h : Below w4.heap.size w4 W) => outs_same vo3 vo4 X.out W ((HO3.out.below hb4).below h) (ho4.outs.below h) (by omega))
      have HIS := Lib.hid (fun (W : World) (h : Below w4.heap.size w4 W) => ints_same vi3 vi4 X.ins W ((HI3.out.below hb4).below h) ((list_of_own hi4).below h) (by omega))
      clear hb4 he4 ho4 hi4
      go_wp2_with fail
      refine HN.out.mono ?_
      rintro e w5 ⟨rfl, hb5⟩
      have HB5 := Lib.hid hb5
      clear hb5
      go_wp2_with fail
      refine (HOS.out w5 HB5.out).mono ?_
      rintro e w6 ⟨rfl, hb6⟩
      have HB6 := Lib.hid (HB5.out.trans (hb6.mono HB5.out.size))
      clear hb6
      go_wp2_with fail
      refine (HIS.out w6 HB6.out).mono ?_
      rintro e w7 ⟨rfl, hb7⟩
      have HB7 := Lib.hid (HB6.out.trans (hb7.mono HB6.out.size))
      clear hb7
      go_wp2_with fail
      go_ret
      exact ⟨rfl, HB4.out.trans (HB7.out.mono HB4.out.size)⟩
end Go.Proofs.YtafcbgapllkghaaGreatDoor
