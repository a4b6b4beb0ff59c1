/- The contract of the document's Parse (spinetref03.Parse). -/
import Derived.Test.YtoiflidlnajbdaaGreatDoorQall
import Derived.Test.YtoiflidlnajbdaaGreatDoorPparse
import Derived.Test.YtoiflidlnajbdaaGreatDoorZreft
namespace Go.Proofs.YtoiflidlnajbdaaGreatDoor
open Go.ChangeShapes Go.WideShapes Go.ChangeAt Go.RowKit
set_option linter.unusedVariables false

def TPost (a : Ans) (w : World) (e : Ending) (w' : World) : Prop :=
  Below w.heap.size w w' ∧ match a with
    | .toks o => ∃ v, e = .returned (.tuple #[v, .int .i64 0, .int .i64 (-1)]) ∧ w'.ownsRow w.heap.size 37 3 v o.length (tksCells o)
    | .form k => e = .returned (.tuple #[.slice none 0 0, .int .i64 2, .int .i64 k])
    | .large => e = .returned (.tuple #[.slice none 0 0, .int .i64 3, .int .i64 (-1)])
set_option maxHeartbeats 1000000 in
set_option maxRecDepth 100000 in
theorem rparse_large (s : ByteArray) (w : World) (hs : 200 < s.size) (hs2 : s.size ≤ 1000000) : Calls Tryz.prog 11 #[.string s] w (TPost .large w) := by
  go_enter Tryz.func11, Tryz.ntmps11
  go_wp2_with fail
  refine bodyPost_ret (v := .tuple #[.slice none 0 0, .int .i64 3, .int .i64 (-1)]) (by simp [results, Tryz.results11, go_sem]) rfl ?_
  exact ⟨Below.refl _ _, rfl⟩
set_option maxHeartbeats 1000000 in
set_option maxRecDepth 100000 in
theorem rparse_spot (s : ByteArray) (w : World) (hs : s.size ≤ 200) (k : Nat) (hR : scan s.data.toList 0 [] = ([], (k : Int))) : Calls Tryz.prog 11 #[.string s] w (TPost (.form k) w) := by
  have HR := Lib.hid hR
  clear hR
  go_enter Tryz.func11, Tryz.ntmps11
  go_wp2_with fail
  refine (rtokens_any s w hs).mono ?_
  intro e w' hp
  rw [HR.out] at hp
  rcases hp with ⟨hb, ⟨h1, _⟩ | ⟨k', h1, rfl⟩⟩
  · simp at h1
  · have hkk : k' = k := by simp only [Prod.mk.injEq] at h1; omega
    subst hkk
    have HBB := Lib.hid hb
    clear h1 hb
    go_wp2_with fail
    refine bodyPost_ret (v := .tuple #[.slice none 0 0, .int .i64 2, .int .i64 k']) (by simp [results, Tryz.results11, go_sem]) rfl ?_
    exact ⟨HBB.out, rfl⟩
theorem ansOf_bad (ts : List Tk) (len k : Nat) : ansOf ts len (.bad k) = .form (byteAt ts len k) := rfl
theorem byteAt_end (ts : List Tk) (len : Nat) : byteAt ts len ts.length = len := by unfold byteAt; rw [List.getElem?_eq_none (Nat.le_refl _)]; rfl
set_option maxHeartbeats 2000000 in
set_option maxRecDepth 100000 in
theorem rparse_read (s : ByteArray) (w : World) (hs : s.size ≤ 200) (ts : List Tk) (R : Res) (hR : scan s.data.toList 0 [] = (ts, -1)) (hA : readAll ts = some R) : Calls Tryz.prog 11 #[.string s] w (TPost (ansOf ts s.size R) w) := by
  have hlen : ts.length ≤ 200 := by have := scan_len s.data.toList; rw [hR, ← Lib.size_eq] at this; simp at this; omega
  have hf := rd_fits ts _ 1 0 [] R hA (Nat.zero_le _)
  have HR := Lib.hid hR
  have HA := Lib.hid hA
  have HF := Lib.hid hf
  clear hR hA hf
  go_enter Tryz.func11, Tryz.ntmps11
  go_wp2_with fail
  refine (rtokens_any s w hs).mono ?_
  intro e w1 hp
  rw [HR.out] at hp
  rcases hp with ⟨hb, ⟨_, v, rfl, hown⟩ | ⟨k', h1, _⟩⟩
  · have HT := Lib.hid (ToksU.of (ToksAt.of_own hown))
    obtain ⟨A, cap, rfl, _⟩ := ToksAt.of_own hown
    have HB := Lib.hid hb
    clear hown hb
    go_wp2_with fail
    have hba : Below w1.heap.size w1 (w1.alloc (.cells #[.slice A ts.length cap, .int .i64 0, .slice none 0 0, .bool false] 65)) := (Below.refl _ _).alloc (Nat.le_refl _) _
    have HS0 : Hid (QSt w1.heap.size (.slice A ts.length cap) (w1.alloc (.cells #[.slice A ts.length cap, .int .i64 0, .slice none 0 0, .bool false] 65)) 0 (.slice none 0 0) [] false) := Lib.hid ⟨Blk.new _ _ _, World.ownsRow_nil _ _ _ _⟩
    have HT0 := Lib.hid (HT.out.below hba)
    have HBA := Lib.hid hba
    clear hba
    have hRd := (qall ts w1.heap.size (.slice A ts.length cap) (by omega) (20 * ts.length + 20) _ (Nat.le_refl _)).r1
    refine (hRd 0 [] R _ 1 _ HA.out (Nat.zero_le _) (by simp) HT0.out HS0.out rfl).mono ?_
    rintro e w2 ⟨rfl, hb2, hm⟩
    have HK := Lib.hid (HBA.out.trans hb2)
    have HTT := Lib.hid (HT0.out.below hb2)
    clear hb2 hRd
    have HBW := Lib.hid (HB.out.trans (HK.out.mono HB.out.size))
    cases R with
    | bad k =>
      obtain ⟨v', o, hst, _⟩ := hm
      obtain ⟨⟨c0, c1, c2, c3⟩, f0, f1, f2, f3⟩ := hst.blk.facts4
      have hkl : k ≤ ts.length := by have := HF.out; unfold Fits at this; omega
      clear hst
      by_cases ha : k = ts.length
      · subst ha
        have hd : decide (ts.length < ts.length) = false := by simp
        go_wp2_with fail
        refine bodyPost_ret (v := .tuple #[.slice none 0 0, .int .i64 2, .int .i64 s.size]) (by simp [results, Tryz.results11, go_sem]) rfl ?_
        rw [ansOf_bad, byteAt_end]
        exact ⟨HBW.out, rfl⟩
      · have hlt : k < ts.length := by omega
        obtain ⟨A', cap', hv, hc, hi⟩ := HTT.out
        obtain ⟨b, o, rfl, hbb, d0, d1, d2⟩ := hi k ts[k] (List.getElem?_eq_getElem hlt)
        injection hv with hv1 hv2 hv3
        subst hv1
        have HX := Lib.hid (show byteAt ts s.size k = ts[k].2.2 by unfold byteAt; rw [List.getElem?_eq_getElem hlt]; rfl)
        have hd : decide (k < ts.length) = true := by simpa using hlt
        have hk1 : (k : Int) < (ts.length : Int) := by omega
        have hk0 : (0 : Int) ≤ (k : Int) := Int.natCast_nonneg _
        generalize ts[k].2.2 = z at *
        clear hi hc hv2 hv3 ha d0 d1
        go_wp2_with fail
        go_quiet (fail)
        go_wp2_with fail
        refine bodyPost_ret (v := .tuple #[.slice none 0 0, .int .i64 2, .int .i64 z]) (by simp [results, Tryz.results11, go_sem]) rfl ?_
        rw [ansOf_bad, HX.out]
        exact ⟨below_drewN HBW.out _, rfl⟩
    | ok k o =>
      obtain ⟨v', hst⟩ := hm
      obtain ⟨⟨c0, c1, c2, c3⟩, f0, f1, f2, f3⟩ := hst.blk.facts4
      have HS := Lib.hid hst
      have hol : o.length ≤ 200 := by have := HF.out; unfold Fits at this; simp at this; omega
      have hkl : k ≤ ts.length := by have := HF.out; unfold Fits at this; omega
      obtain ⟨A', cap', hv'⟩ := own_slice hst.own
      subst hv'
      clear hst
      by_cases ha : k = ts.length
      · have HAK := Lib.hid ha
        have hd : decide (k < ts.length) = false := by simp; omega
        subst ha
        by_cases h100 : o.length ≤ 100
        · have hd : decide (100 < o.length) = false := by simpa using h100
          have hd' : decide ((100 : Int) < (o.length : Int)) = false := by simp; omega
          go_wp2_with fail
          refine bodyPost_ret (v := .tuple #[.slice A' o.length cap', .int .i64 0, .int .i64 (-1)]) (by simp [results, Tryz.results11, go_sem]) rfl ?_
          rw [ansOf_toks _ _ _ _ rfl h100]
          exact ⟨HBW.out, _, rfl, own_base HS.out.own (Nat.le_trans HB.out.size (Nat.le_succ _))⟩
        · have hd : decide (100 < o.length) = true := by simpa using h100
          have hd' : decide ((100 : Int) < (o.length : Int)) = true := by simp; omega
          have hd2 : 100 < o.length := by omega
          go_wp2_with fail
          refine bodyPost_ret (v := .tuple #[.slice none 0 0, .int .i64 3, .int .i64 (-1)]) (by simp [results, Tryz.results11, go_sem]) rfl ?_
          rw [ansOf_large _ _ _ _ rfl hd2]
          exact ⟨HBW.out, rfl⟩
      · have hlt : k < ts.length := by omega
        have HAK := Lib.hid ha
        obtain ⟨A2, cap2, hv, hc, hi⟩ := HTT.out
        obtain ⟨b, o2, rfl, hbb, d0, d1, d2⟩ := hi k ts[k] (List.getElem?_eq_getElem hlt)
        injection hv with hv1 hv2 hv3
        subst hv1
        have HX := Lib.hid (show byteAt ts s.size k = ts[k].2.2 by unfold byteAt; rw [List.getElem?_eq_getElem hlt]; rfl)
        have hd : decide (k < ts.length) = true := by simpa using hlt
        have hk1 : (k : Int) < (ts.length : Int) := by omega
        have hk0 : (0 : Int) ≤ (k : Int) := Int.natCast_nonneg _
        generalize ts[k].2.2 = z at *
        clear hi hc hv2 hv3 ha d0 d1
        go_wp2_with fail
        go_quiet (fail)
        go_wp2_with fail
        refine bodyPost_ret (v := .tuple #[.slice none 0 0, .int .i64 2, .int .i64 z]) (by simp [results, Tryz.results11, go_sem]) rfl ?_
        rw [ansOf_form _ _ _ _ HAK.out, HX.out]
        exact ⟨below_drewN HBW.out _, rfl⟩
  · simp at h1
theorem rparse_any (s : ByteArray) (w : World) (hs : s.size ≤ 1000000) : Calls Tryz.prog 11 #[.string s] w (TPost (parseAns s.data.toList) w) := by
  unfold parseAns
  rw [← Lib.size_eq]
  by_cases h : s.size ≤ 200
  · rw [if_pos h]
    unfold ansIn
    rcases scan_cases s.data.toList with h1 | ⟨k, h1⟩
    · obtain ⟨R, hR⟩ := readAll_some (scan s.data.toList 0 []).1
      rw [if_pos h1, hR]
      exact rparse_read s w h _ R (by rw [← h1]) hR
    · rw [h1, if_neg (by simp)]
      exact rparse_spot s w h k h1
  · rw [if_neg h]
    exact rparse_large s w (by omega) hs
end Go.Proofs.YtoiflidlnajbdaaGreatDoor
