/- The contract of the document's Of (spinetref04.Of): a text's value, a mishap's number and its place. -/
import Derived.Test.YtafcbgapllkghaaGreatDoorEof
import Derived.Test.YtafcbgapllkghaaGreatDoorQparse
namespace Go.Proofs.YtafcbgapllkghaaGreatDoor
open Go.ChangeShapes Go.WideShapes Go.ChangeAt Go.RowKit
set_option linter.unusedVariables false

theorem results_trip {fn : Func} {r s t : Tmp} (hr : fn.results = #[.cell r 43, .tmp s, .tmp t]) (tmps : Array Value) (w : World) (g : Nat) (a b : Value)
    (hp : tmps.getD r undef = .pointer (some ⟨g, 0, none⟩)) (hB : Blk w g 43 #[a, b]) :
    (results fn tmps).run Tryz.prog w = .ok (.tuple #[.agg #[a, b], tmps.getD s undef, tmps.getD t undef]) w := by
  have c0 := hB.cell 0
  have c1 := hB.cell 1
  simp at c0 c1 hp
  simp [results, hr, hp, go_sem, c0, c1]
/-- what the document's Of tells -/
def ROPost (a : Ans) (env : List Int) (w : World) (e : Ending) (w' : World) : Prop :=
  Below w.heap.size w w' ∧ match a with
    | .toks o => e = .returned (.tuple #[.agg #[.int .i64 (ans ⟨false, env, 0⟩ o).kind, .int .i64 (ans ⟨false, env, 0⟩ o).num], .int .i64 (ans ⟨false, env, 0⟩ o).code, .int .i64 (-1)])
    | .form k => e = .returned (.tuple #[.agg #[.int .i64 0, .int .i64 0], .int .i64 2, .int .i64 k])
    | .large => e = .returned (.tuple #[.agg #[.int .i64 0, .int .i64 0], .int .i64 3, .int .i64 (-1)])
theorem ro_toks {o : List Tk} {env : List Int} {u : Vl} {w w' : World} {e : Ending} (hu : ans ⟨false, env, 0⟩ o = u) (hb : Below w.heap.size w w') (he : e = .returned (.tuple #[.agg #[.int .i64 u.kind, .int .i64 u.num], .int .i64 u.code, .int .i64 (-1)])) : ROPost (.toks o) env w e w' := by
  subst hu
  exact ⟨hb, he⟩
set_option maxHeartbeats 2000000 in
set_option maxRecDepth 100000 in
theorem rof_any (s : ByteArray) (ve : Value) (env : List Int) (w : World) (hs : s.size ≤ 1000000) (hE : NumsAt w ve env) (hel : env.length ≤ 1000) (hef : ∀ x ∈ env, F64 x) : Calls Tryz.prog 13 #[.string s, ve] w (ROPost (parseAns s.data.toList) env w) := by
  have HBA := Lib.hid ((Below.refl w.heap.size w).alloc (Nat.le_refl _) (.cells #[.int .i64 0, .int .i64 0] 43))
  have HP := Lib.hid (fun W => rparse_any s W hs)
  have HE := Lib.hid hE
  have HEF := Lib.hid hef
  have HPT := Lib.hid (fun o => parse_toks (s := s.data.toList) (o := o))
  have HR := Lib.hid (Blk.new w 43 #[.int .i64 0, .int .i64 0])
  generalize parseAns s.data.toList = a at *
  clear hE hef
  go_enter Tryz.func13, Tryz.ntmps13
  go_wp2_with fail
  refine (HP.out _).mono ?_
  rintro e w1 ⟨hb1, hA⟩
  have HB1 := Lib.hid (HBA.out.trans (hb1.mono HBA.out.size))
  have HR1 := Lib.hid (HR.out.below hb1 HR.out.lt)
  clear hb1
  cases a with
  | toks o =>
    obtain ⟨v, rfl, hown⟩ := hA
    obtain ⟨ho100, hsm, _⟩ := HPT.out o rfl
    have HV := Lib.hid (reval_any v ve o env w1 (ToksAt.of_own hown) (by omega) (HE.out.below HB1.out) hel HEF.out hsm)
    generalize hu : ans ⟨false, env, 0⟩ o = u at HV
    have HU := Lib.hid hu
    clear hu
    clear hown hsm ho100
    go_wp2_with fail
    refine HV.out.mono ?_
    rintro e w2 ⟨rfl, hb2⟩
    have HB2 := Lib.hid (HB1.out.trans (hb2.mono HB1.out.size))
    have HR2 := Lib.hid (HR1.out.below hb2 HR1.out.lt)
    have HRA := Lib.hid (HR2.out.alloc (.cells #[.int .i64 u.kind, .int .i64 u.num] 43))
    have HBN := Lib.hid (HB2.out.alloc HB2.out.size (.cells #[.int .i64 u.kind, .int .i64 u.num] 43))
    have HCN := Lib.hid (Blk.new w2 43 #[.int .i64 u.kind, .int .i64 u.num])
    have hw2 : w.heap.size < w2.heap.size := HR2.out.lt
    obtain ⟨⟨r0, r1⟩, f0, f1⟩ := HR2.out.facts2
    have hne : ¬ w.heap.size = w2.heap.size := by omega
    obtain ⟨⟨q0, q1⟩, g0, g1⟩ := HRA.out.facts2
    clear hb2
    go_wp2_with fail
    refine bodyPost_ret (results_trip Tryz.results13 _ _ w.heap.size _ _ (by rfl) ((HR2.out.set2 _ _).alloc _)) rfl (ro_toks HU.out (((HB2.out.setCell (by simp) _).setCell (by simp) _).alloc (by simp; omega) _) rfl)
  | form k =>
    have hA' : e = .returned (.tuple #[.slice none 0 0, .int .i64 2, .int .i64 k]) := hA
    subst hA'
    obtain ⟨⟨r0, r1⟩, f0, f1⟩ := HR1.out.facts2
    clear hA
    go_wp2_with fail
    refine bodyPost_ret (results_trip Tryz.results13 _ _ w.heap.size _ _ (by rfl) (HR1.out.set2 _ _)) rfl ⟨(HB1.out.setCell (by simp) _).setCell (by simp) _, rfl⟩
  | large =>
    have hA' : e = .returned (.tuple #[.slice none 0 0, .int .i64 3, .int .i64 (-1)]) := hA
    subst hA'
    obtain ⟨⟨r0, r1⟩, f0, f1⟩ := HR1.out.facts2
    clear hA
    go_wp2_with fail
    refine bodyPost_ret (results_trip Tryz.results13 _ _ w.heap.size _ _ (by rfl) (HR1.out.set2 _ _)) rfl ⟨(HB1.out.setCell (by simp) _).setCell (by simp) _, rfl⟩
end Go.Proofs.YtafcbgapllkghaaGreatDoor
