/- The contract of lex.Tokens: the tokens of any text, in memory of its own; or the byte of the first that is none. -/
import Derived.Test.YtdkmloldajhdaaaGreatDoorZgen
import Derived.Test.YtdkmloldajhdaaaGreatDoorZsign
namespace Go.Proofs.YtdkmloldajhdaaaGreatDoor
open Go.ChangeShapes Go.WideShapes Go.ChangeAt Go.RowKit
set_option linter.unusedVariables false

theorem endOf_space0 (s : ByteArray) (w : World) (hs : s.size ≤ 1000000) :
    Calls Tryz.prog 86 #[.string s, .int .i64 0, .func (.func 87) #[] #[]] w fun e w' => e = .returned (.int .i64 (upto isSp s.data.toList 0)) ∧ w = w' := by
  have h := endOf_space s 0 w (Nat.zero_le _) hs
  rwa [show ((0 : Nat) : Int) = 0 from rfl] at h
set_option maxHeartbeats 1000000 in
theorem tokens_large (s : ByteArray) (w : World) (hs : 200 < s.size) (hs2 : s.size ≤ 1000000) :
    Calls Tryz.prog 81 #[.string s] w fun e w' => e = .returned (.tuple #[.slice none 0 0, .iface 78 (.int .i64 3)]) ∧ w = w' := by
  go_enter Tryz.func81, Tryz.ntmps81
  go_wp2
  go_ret2
  exact ⟨rfl, rfl⟩
set_option maxHeartbeats 2000000 in
set_option maxRecDepth 100000 in
theorem tokens_any (s : ByteArray) (w : World) (hL : Laid w) (hs : s.size ≤ 200) :
    Calls Tryz.prog 81 #[.string s] w (TokPost (scan s.data.toList 0 []) w) := by
  obtain ⟨i0, hi, hz0, hz1, hz2⟩ := info_parts Tryz.info40
  have HI := Lib.hid hi
  have HZ0 := Lib.hid hz0
  have HZ1 := Lib.hid hz1
  have HZ2 := Lib.hid hz2
  clear hi hz0 hz1 hz2
  have hz := Lib.size_eq s
  have HZ := Lib.hid hz
  have hu0 : upto isSp s.data.toList 0 ≤ s.size := by rw [hz]; exact upto_le isSp s.data.toList 0 (by omega)
  have HR := Lib.hid (scan_over s.data.toList 0 [])
  have HO := Lib.hid (fun h => upto_off isSp s.data.toList 0 h)
  clear hz
  generalize hE : upto isSp s.data.toList 0 = E at *
  have HE := Lib.hid hE
  clear hE
  generalize hRR : scan s.data.toList 0 [] = R at *
  clear hRR
  go_enter Tryz.func81, Tryz.ntmps81
  go_wp2_with fail
  refine (endOf_space0 s _ (by omega)).mono ?_
  rintro e w' ⟨rfl, rfl⟩
  rw [HE.out]
  go_wp2_with fail
  go_loopw [4, 5] (fun v i wr => ∃ (k : Nat) (ts : List Tk), k ≤ s.size ∧ ts.length ≤ k ∧ i = .int .i64 (k : Int) ∧ Hid (scan s.data.toList k ts = R) ∧ Hid (k < s.data.toList.length → isSp (s.data.toList.getD k 0) = false) ∧ Below w.heap.size w wr ∧ Hid (wr.ownsRow w.heap.size 112 3 v ts.length (tksCells ts))) (fun _ i _ => s.size - (intOf i).toNat)
  case atStart => exact ⟨E, [], hu0, by simp, rfl, Lib.hid HR.out.symm, HO, Below.refl _ _, Lib.hid (World.ownsRow_nil _ _ _ _)⟩
  case round =>
    obtain ⟨k, ts, hk, hts, rfl, hU, hO, hb, hown⟩ := hrel
    obtain ⟨wo, rfl⟩ : ∃ wo : World, wo = wr := ⟨_, rfl⟩
    have HL := Lib.hid (hL.after hb)
    by_cases hlt : k < s.size
    · have hlt' : k < s.data.toList.length := by rw [← HZ.out]; exact hlt
      have hsp := Lib.hid (hO.out hlt')
      clear hO
      cases hr : tokAt s.data.toList k with
      | none =>
        have HH := Lib.hid (hU.out.symm.trans (scan_bad _ k ts hlt' hsp.out hr))
        have HT := Lib.hid hr
        clear hr hU
        go_wp2_with fail
        refine (tokenAt_any s k _ HL.out hlt (by omega)).mono ?_
        rintro e w1 ⟨rfl, hb1⟩
        rw [HT.out, tokVal]
        have HS := Lib.hid hb1.size
        go_wp2
        go_ret2
        exact ⟨((hb.trans (hb1.mono hb.size)).alloc (Nat.le_trans hb.size HS.out) _).alloc (Nat.le_trans hb.size (Nat.le_trans HS.out (by simp))) _, .inr ⟨k, _, HH.out, rfl, Nat.le_trans hb.size (Nat.le_trans HS.out (Nat.le_succ _)), Blk.new_at (w1.alloc _) 82 _ _ (by simp)⟩⟩
      | some x =>
        obtain ⟨t, x⟩ := x
        have HH := Lib.hid ((scan_tok _ k x t ts hlt' hsp.out hr).symm.trans hU.out)
        have HT := Lib.hid hr
        obtain ⟨g1, g2⟩ := tokAt_gt hlt' hr
        clear hr hU
        go_wp2_with fail
        refine (tokenAt_any s k _ HL.out hlt (by omega)).mono ?_
        rintro e w1 ⟨rfl, hb1⟩
        rw [HT.out, tokVal]
        have HS := Lib.hid hb1.size
        have HN := Lib.hid (own_below hown.out hb1)
        go_wp2_with (at_builtin; refine wpList_append_own_at _ rfl _ _ 100 rfl w.heap.size 112 i0 (.agg #[.int .i64 0, .int .i64 0, .int .i64 0]) 3 24 Tryz.underlying100 HI.out HZ0.out HZ1.out HZ2.out rfl (by decide) _ _ _ rfl ((HN.out.alloc _).alloc _) ⟨w1.heap.size + 1, 0, none⟩ 1 1 (tkCells t) rfl rfl ?c1 ?c2 ?c3 ?c4 ?c5 ?_)
        case c1 => exact new_cells _ _ _ _ (by simp)
        case c2 => exact tk_one t
        case c3 => unfold maxLen; omega
        case c4 => omega
        case c5 => simp; have := hb.size; have := HS.out; omega
        intro v' w2 hown' hgrow _ _
        have HG := Lib.hid (Below.grown (((hb.trans (hb1.mono hb.size)).alloc (Nat.le_trans hb.size HS.out) _).alloc (Nat.le_trans hb.size (Nat.le_trans HS.out (by simp))) _) hgrow (by simp; have := hb.size; have := HS.out; omega) (fun g hg => (HN.out.lt g hg).1))
        have HO' := Lib.hid hown'
        clear hown' hgrow
        go_wp2_with fail
        refine (endOf_space s x _ (by rw [HZ.out]; exact g2) (by omega)).mono ?_
        rintro e w' ⟨rfl, rfl⟩
        have u1 := le_upto isSp s.data.toList x
        have u2' := upto_le isSp s.data.toList x g2
        go_wp2
        go_roundw
        case rel => exact ⟨upto isSp s.data.toList x, ts ++ [t], by rw [HZ.out]; exact u2', by simp; omega, rfl, Lib.hid ((scan_over _ x _).symm.trans HH.out), Lib.hid (fun h => upto_off isSp _ x h), HG.out, Lib.hid (by rw [tksCells_snoc]; simpa using HO'.out)⟩
        case measure => simp [intOf]; have := HZ.out; omega
    · have HH := Lib.hid (hU.out.symm.trans (scan_end _ k ts (by rw [← HZ.out]; omega)))
      clear hO hU
      go_wp2
      go_ret2
      refine ⟨hb, .inl ⟨by rw [HH.out], _, rfl, ?_⟩⟩
      rw [HH.out]
      exact hown.out
end Go.Proofs.YtdkmloldajhdaaaGreatDoor
