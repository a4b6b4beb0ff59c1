/- The contracts of expr.Type and expr.Eval at any tokens, of the document's Type and Eval. -/
import Derived.Test.YtoiflidlnajbdaaDoorEall
namespace Go.Proofs.YtoiflidlnajbdaaDoor
open Go.ChangeShapes Go.WideShapes Go.ChangeAt Go.RowKit
set_option linter.unusedVariables false

theorem ans_not (m : Md) {ts : List Tk} (h : mayP ts = false) : ans m ts = .bad 2 := by unfold ans; rw [if_neg (by rw [h]; exact Bool.false_ne_true)]
set_option maxHeartbeats 1000000 in
theorem type_any (v : Value) (ts : List Tk) (vars : Int) (w : World) (hv : ToksAt w v ts) (hl : ts.length ≤ 1000) (hn : ∀ t ∈ ts, t.2.1 ≤ 9223372036854775807) : Calls Tryd.prog 8 #[v, .int .i64 vars] w (TyPost (ans ⟨true, [], vars⟩ ts) w) := by
  cases hm : mayP ts with
  | true => exact type_may v ts vars w hv hn hm
  | false =>
    have HM := Lib.hid (may_any v ts w hv (by omega))
    have HMP := Lib.hid hm
    have HA := Lib.hid (ans_not ⟨true, [], vars⟩ hm)
    obtain ⟨A, cap, rfl, hc, hel⟩ := hv
    clear hel hm
    go_enter Tryd.func8, Tryd.ntmps8
    go_wp2_with fail
    refine HM.out.mono ?_
    rintro e w0 ⟨rfl, hb0⟩
    rw [HMP.out]
    have HB0 := Lib.hid hb0
    clear hb0
    go_wp2_with fail
    go_ret2
    rw [HA.out]
    exact ⟨HB0.out, rfl⟩
set_option maxHeartbeats 1000000 in
theorem eval_any (v ve : Value) (ts : List Tk) (env : List Int) (w : World) (hv : ToksAt w v ts) (hl : ts.length ≤ 1000) (hE : NumsAt w ve env) (hel : env.length ≤ 1000) (hef : ∀ x ∈ env, F64 x) (hn : ∀ t ∈ ts, t.2.1 ≤ 9223372036854775807) : Calls Tryd.prog 11 #[v, ve] w (VPost (ans ⟨false, env, 0⟩ ts) w) := by
  cases hm : mayP ts with
  | true => exact eval_may v ve ts env w hv hE hel hef hn hm
  | false =>
    have HBA := Lib.hid ((Below.refl w.heap.size w).alloc (Nat.le_refl _) (.cells #[.int .i64 0, .int .i64 0] 34))
    have HM := Lib.hid (may_any v ts _ (hv.below HBA.out) (by omega))
    have HMP := Lib.hid hm
    have HA := Lib.hid (ans_not ⟨false, env, 0⟩ hm)
    obtain ⟨A, cap, rfl, hc, hel⟩ := hv
    clear hel hm
    go_enter Tryd.func11, Tryd.ntmps11
    go_wp2_with fail
    refine HM.out.mono ?_
    rintro e w0 ⟨rfl, hb0⟩
    rw [HMP.out]
    have HB0 := Lib.hid (HBA.out.trans (hb0.mono HBA.out.size))
    have HR0 := Lib.hid ((Blk.new w 34 #[.int .i64 0, .int .i64 0]).below hb0 (by simp))
    obtain ⟨⟨r0, r1⟩, f0, f1⟩ := HR0.out.facts2
    clear hb0
    go_wp2_with fail
    refine bodyPost_ret (results_pair Tryd.results11 _ _ w.heap.size _ _ (by rfl) (HR0.out.set2 _ _)) rfl ⟨(HB0.out.setCell (by simp) _).setCell (by simp) _, ?_⟩
    rw [HA.out]
    rfl
theorem valOf_is (u : Vl) (h : u.code = 0 → ∃ k n, u = .ok k n) : valOf u = .agg #[.int .i64 u.kind, .int .i64 u.num, .int .i64 u.code] := by cases u <;> rfl
theorem valOf_parts (u : Vl) : valOf u = .agg #[.int .i64 u.kind, .int .i64 u.num, .int .i64 u.code] := by cases u <;> rfl
set_option maxHeartbeats 2000000 in
set_option maxRecDepth 100000 in
theorem rtype_any (v : Value) (ts : List Tk) (vars : Int) (w : World) (hv : ToksAt w v ts) (hl : ts.length ≤ 1000) (hn : ∀ t ∈ ts, t.2.1 ≤ 9223372036854775807) :
    Calls Tryd.prog 9 #[v, .int .i64 vars] w fun e w' => e = .returned (.tuple #[.int .i64 (ans ⟨true, [], vars⟩ ts).kind, .int .i64 (ans ⟨true, [], vars⟩ ts).code]) ∧ Below w.heap.size w w' := by
  have HM := Lib.hid (rmay_any v ts w hv hl)
  cases hm : mayP ts with
  | true =>
    have HMP := Lib.hid hm
    have HV := Lib.hid hv
    obtain ⟨A, cap, rfl, hc, hel⟩ := hv
    have HT := Lib.hid (fun W z (hb : Below w.heap.size w W) hz => (end_top ⟨true, [], vars⟩ ts A cap (.slice none 0 0) z W hm (by simp) (HV.out.below hb) (ints_nil W none 0) hn (fun y hy => by cases hy) hz).1)
    have hpos := (end_top ⟨true, [], vars⟩ ts A cap (.slice none 0 0) _ w hm (by simp) HV.out (ints_nil w none 0) hn (fun y hy => by cases hy) rfl).2
    generalize (ans ⟨true, [], vars⟩ ts) = a at *
    clear hel hm hn
    go_enter Tryd.func9, Tryd.ntmps9
    go_wp2_with fail
    refine HM.out.mono ?_
    rintro e w0 ⟨rfl, hb0⟩
    rw [HMP.out]
    have HB0 := Lib.hid hb0
    clear hb0
    go_wp2_with fail
    refine (HT.out _ _ HB0.out (by omega)).mono ?_
    rintro e w1 ⟨f, rfl, hb1⟩
    rw [valOf_parts]
    have HB1 := Lib.hid (HB0.out.trans (hb1.mono HB0.out.size))
    clear hb1
    go_wp2_with fail
    go_quiet (fail)
    go_wp2
    go_ret2
    exact ⟨rfl, below_drewN (HB1.out.alloc HB1.out.size _) _⟩
  | false =>
    have HMP := Lib.hid hm
    have HA := Lib.hid (ans_not ⟨true, [], vars⟩ hm)
    obtain ⟨A, cap, rfl, hc, hel⟩ := hv
    clear hel hm
    go_enter Tryd.func9, Tryd.ntmps9
    go_wp2_with fail
    refine HM.out.mono ?_
    rintro e w0 ⟨rfl, hb0⟩
    rw [HMP.out]
    have HB0 := Lib.hid hb0
    clear hb0
    go_wp2_with fail
    go_ret2
    rw [HA.out]
    exact ⟨rfl, HB0.out⟩
set_option maxHeartbeats 4000000 in
set_option maxRecDepth 100000 in
theorem reval_any (v ve : Value) (ts : List Tk) (env : List Int) (w : World) (hv : ToksAt w v ts) (hl : ts.length ≤ 1000) (hE : NumsAt w ve env) (hel : env.length ≤ 1000) (hef : ∀ x ∈ env, F64 x) (hn : ∀ t ∈ ts, t.2.1 ≤ 9223372036854775807) :
    Calls Tryd.prog 12 #[v, ve] w fun e w' => e = .returned (.tuple #[.agg #[.int .i64 (ans ⟨false, env, 0⟩ ts).kind, .int .i64 (ans ⟨false, env, 0⟩ ts).num], .int .i64 (ans ⟨false, env, 0⟩ ts).code]) ∧ Below w.heap.size w w' := by
  have HBA := Lib.hid ((Below.refl w.heap.size w).alloc (Nat.le_refl _) (.cells #[.int .i64 0, .int .i64 0] 34))
  have HM := Lib.hid (rmay_any v ts _ (hv.below HBA.out) hl)
  cases hm : mayP ts with
  | true =>
    have HMP := Lib.hid hm
    have HV := Lib.hid hv
    obtain ⟨A, cap, rfl, hc, hel2⟩ := hv
    have HT := Lib.hid (fun W z (hb : Below w.heap.size w W) hz => (end_top ⟨false, env, 0⟩ ts A cap ve z W hm hel (HV.out.below hb) (hE.below hb) hn hef hz).1)
    have hpos := (end_top ⟨false, env, 0⟩ ts A cap ve _ w hm hel HV.out hE hn hef rfl).2
    generalize (ans ⟨false, env, 0⟩ ts) = a at *
    obtain ⟨eA, ecap, rfl, hec, hei⟩ := hE
    clear hel2 hm hn hei
    go_enter Tryd.func12, Tryd.ntmps12
    go_wp2_with fail
    refine HM.out.mono ?_
    rintro e w0 ⟨rfl, hb0⟩
    rw [HMP.out]
    have HB0 := Lib.hid (HBA.out.trans (hb0.mono HBA.out.size))
    have HR0 := Lib.hid ((Blk.new w 34 #[.int .i64 0, .int .i64 0]).below hb0 (by simp))
    clear hb0
    go_wp2_with fail
    refine (HT.out _ _ HB0.out (by omega)).mono ?_
    rintro e w1 ⟨f, rfl, hb1⟩
    rw [valOf_parts]
    have HB1 := Lib.hid (HB0.out.trans (hb1.mono HB0.out.size))
    have HR1 := Lib.hid (HR0.out.below hb1 HR0.out.lt)
    have hw1 : w.heap.size < w1.heap.size := HR1.out.lt
    have HBN := Lib.hid (HB1.out.alloc HB1.out.size (.cells #[.int .i64 a.kind, .int .i64 a.num, .int .i64 a.code] 52))
    have HRN := Lib.hid (HR1.out.alloc (.cells #[.int .i64 a.kind, .int .i64 a.num, .int .i64 a.code] 52))
    have HCN := Lib.hid (Blk.new w1 52 #[.int .i64 a.kind, .int .i64 a.num, .int .i64 a.code])
    clear hb1
    go_wp2_with fail
    generalize hg1 : w1.heap.size = g1 at *
    generalize w1.alloc (.cells #[.int .i64 a.kind, .int .i64 a.num, .int .i64 a.code] 52) = w2 at *
    obtain ⟨⟨r0, r1⟩, f0, f1⟩ := HRN.out.facts2
    obtain ⟨⟨n0, n1, n2⟩, _⟩ := HCN.out.facts3
    have hne : ¬ g1 = w.heap.size := by omega
    have hne2 : ¬ w.heap.size = g1 := by omega
    go_region
    all_goals
      go_wp2_with fail
      refine bodyPost_ret (results_pair Tryd.results12 _ _ w.heap.size _ _ (by rfl) ((HRN.out.drewN 1).set2 _ _)) rfl ⟨rfl, ((below_drewN HBN.out 1).setCell (by simp) _).setCell (by simp) _⟩
  | false =>
    have HMP := Lib.hid hm
    have HA := Lib.hid (ans_not ⟨false, env, 0⟩ hm)
    obtain ⟨A, cap, rfl, hc, hel2⟩ := hv
    clear hel2 hm
    go_enter Tryd.func12, Tryd.ntmps12
    go_wp2_with fail
    refine HM.out.mono ?_
    rintro e w0 ⟨rfl, hb0⟩
    rw [HMP.out]
    have HB0 := Lib.hid (HBA.out.trans (hb0.mono HBA.out.size))
    have HR0 := Lib.hid ((Blk.new w 34 #[.int .i64 0, .int .i64 0]).below hb0 (by simp))
    obtain ⟨⟨r0, r1⟩, f0, f1⟩ := HR0.out.facts2
    clear hb0
    go_wp2_with fail
    refine bodyPost_ret (results_pair Tryd.results12 _ _ w.heap.size _ _ (by rfl) (HR0.out.set2 _ _)) rfl ⟨?_, (HB0.out.setCell (by simp) _).setCell (by simp) _⟩
    rw [HA.out]
    rfl
end Go.Proofs.YtoiflidlnajbdaaDoor
