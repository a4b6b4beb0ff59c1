/- The contract of the document's End at any place; of its Type and Eval. -/
import Derived.Test.YtafcbgapllkghaaDoorEevalw
namespace Go.Proofs.YtafcbgapllkghaaDoor
open Go.ChangeShapes Go.WideShapes Go.ChangeAt Go.RowKit
set_option linter.unusedVariables false

theorem bad_ne {c : Int} (h : Good (.bad c)) : c ≠ 0 := by rcases h with h | h | h <;> omega
end Go.Proofs.YtafcbgapllkghaaDoor
/- The contracts of expr.Type and expr.Eval at any tokens, of the document's Type and Eval. -/
namespace Go.Proofs.YtafcbgapllkghaaDoor
open Go.ChangeShapes Go.WideShapes Go.ChangeAt Go.RowKit
set_option linter.unusedVariables false

theorem ans_not (m : Md) {ts : List Tk} (h : mayP ts = false) : ans m ts = .bad 2 := by unfold ans; rw [if_neg (by rw [h]; exact Bool.false_ne_true)]
set_option maxHeartbeats 1000000 in
theorem eval_any (v ve : Value) (ts : List Tk) (env : List Int) (w : World) (hv : ToksAt w v ts) (hl : ts.length ≤ 1000) (hE : NumsAt w ve env) (hel : env.length ≤ 1000) (hef : ∀ x ∈ env, F64 x) (hn : ∀ t ∈ ts, t.2.1 ≤ 9223372036854775807) : Calls Tryd.prog 15 #[v, ve] w (VPost (ans ⟨false, env, 0⟩ ts) w) := by
  cases hm : mayP ts with
  | true => exact eval_may v ve ts env w hv hE hel hef hn hm
  | false =>
    have HBA := Lib.hid ((Below.refl w.heap.size w).alloc (Nat.le_refl _) (.cells #[.int .i64 0, .int .i64 0] 44))
    have HM := Lib.hid (may_any v ts _ (hv.below HBA.out) (by omega))
    have HMP := Lib.hid hm
    have HA := Lib.hid (ans_not ⟨false, env, 0⟩ hm)
    obtain ⟨A, cap, rfl, hc, hel⟩ := hv
    clear hel hm
    go_enter Tryd.func15, Tryd.ntmps15
    go_wp2_with fail
    refine HM.out.mono ?_
    rintro e w0 ⟨rfl, hb0⟩
    rw [HMP.out]
    have HB0 := Lib.hid (HBA.out.trans (hb0.mono HBA.out.size))
    have HR0 := Lib.hid ((Blk.new w 44 #[.int .i64 0, .int .i64 0]).below hb0 (by simp))
    obtain ⟨⟨r0, r1⟩, f0, f1⟩ := HR0.out.facts2
    clear hb0
    go_wp2_with fail
    refine bodyPost_ret (results_pair Tryd.results15 _ _ w.heap.size _ _ (by rfl) (HR0.out.set2 _ _)) rfl ⟨(HB0.out.setCell (by simp) _).setCell (by simp) _, ?_⟩
    rw [HA.out]
    rfl
end Go.Proofs.YtafcbgapllkghaaDoor
