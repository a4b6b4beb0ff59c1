/- The walk of the law ParseTexts: true for any text. -/
import Derived.Test.YtdeopkjpglkdhaaGreatDoorPup
import Derived.Test.YtdeopkjpglkdhaaGreatDoorQparse
import Derived.Test.YtdeopkjpglkdhaaGreatDoorZsame
namespace Go.Proofs.YtdeopkjpglkdhaaGreatDoor
open Go.ChangeShapes Go.WideShapes Go.ChangeAt Go.RowKit
set_option linter.unusedVariables false

theorem tokAt_at {l : List UInt8} {k e : Nat} {t : Tk} (h : tokAt l k = some (t, e)) : t.2.2 = (k : Int) := by
  unfold tokAt fixTok at h
  split at h
  · split at h
    · simp only [Option.some.injEq, Prod.mk.injEq] at h; rw [← h.1]
    · cases h
  · split at h
    · split at h
      · simp only [Option.some.injEq, Prod.mk.injEq] at h; rw [← h.1]
      · rw [Option.map_eq_some_iff] at h
        obtain ⟨j, _, h⟩ := h
        simp only [Prod.mk.injEq] at h; rw [← h.1]
    · split at h
      · rw [Option.map_eq_some_iff] at h
        obtain ⟨j, _, h⟩ := h
        simp only [Prod.mk.injEq] at h; rw [← h.1]
      · rw [Option.map_eq_some_iff] at h
        obtain ⟨j, _, h⟩ := h
        simp only [Prod.mk.injEq] at h; rw [← h.1]
theorem scanF_at (l : List UInt8) : ∀ (n k : Nat) (acc : List Tk), (∀ t ∈ acc, 0 ≤ t.2.2) → ∀ t ∈ (scanF n l k acc).1, 0 ≤ t.2.2
  | 0, k, acc, h => by rw [scanF]; exact h
  | n + 1, k, acc, h => by
    rw [scanF]
    by_cases hk : k < l.length
    · rw [if_pos hk]
      by_cases hs : isSp (l.getD k 0) = true
      · rw [if_pos hs]; exact scanF_at l n (k + 1) acc h
      · rw [if_neg hs]
        cases ht : tokAt l k with
        | none => intro t ht; cases ht
        | some x =>
          refine scanF_at l n x.2 (acc ++ [x.1]) (fun t h1 => ?_)
          rcases List.mem_append.1 h1 with h2 | h2
          · exact h t h2
          · obtain rfl := List.mem_singleton.1 h2
            rw [tokAt_at ht]; omega
    · rw [if_neg hk]; exact h
theorem byteAt_nn {ts : List Tk} {len k : Nat} (h : ∀ t ∈ ts, 0 ≤ t.2.2) : 0 ≤ byteAt ts len k := by
  unfold byteAt
  cases hg : ts[k]? with
  | none => simp
  | some t => exact h t (List.mem_of_getElem? hg)
theorem form_nn {s : List UInt8} {k : Int} (h : parseAns s = .form k) : 0 ≤ k := by
  unfold parseAns at h
  split at h
  · unfold ansIn at h
    split at h
    · obtain ⟨R, hR⟩ := readAll_some (scan s 0 []).1
      rw [hR] at h
      have hb := fun k => byteAt_nn (len := s.length) (k := k) (show ∀ t ∈ (scan s 0 []).1, 0 ≤ t.2.2 from scanF_at s _ 0 [] (fun t ht => by cases ht))
      cases R with
      | bad k' => unfold ansOf at h; injection h with h; rw [← h]; exact hb k'
      | ok k' o =>
        unfold ansOf at h
        simp only at h
        split at h
        · split at h <;> cases h
        · injection h with h; rw [← h]; exact hb k'
    · rename_i hn
      injection h with h
      rcases scan_cases s with h1 | ⟨k', h1⟩
      · exact absurd h1 hn
      · rw [← h, h1]; simp
  · cases h
theorem toks_nil (w : World) : ToksAt w (.slice none 0 0) [] := ⟨none, 0, rfl, Nat.le_refl _, fun i t h => by simp at h⟩
set_option maxHeartbeats 2000000 in
set_option maxRecDepth 100000 in
theorem law1_far (s : ByteArray) (w : World) (hL : Laid w) (hs : s.size ≤ 9223372036854775807) (h : 3000 < s.size) :
    Calls Tryz.prog 3 #[.string s] w fun e w' => e = .returned (.bool true) ∧ Below w.heap.size w w' := by
  go_enter Tryz.func3, Tryz.ntmps3
  go_wp2_with fail
  refine (up_any _ hL).mono ?_
  rintro e w1 ⟨rfl, hb1⟩
  have HB1 := Lib.hid hb1
  clear hb1
  go_wp2
  go_ret
  exact ⟨rfl, HB1.out⟩
set_option maxHeartbeats 2000000 in
set_option maxRecDepth 100000 in
theorem law1_near (s : ByteArray) (w : World) (hL : Laid w) (h : s.size ≤ 3000) :
    Calls Tryz.prog 3 #[.string s] w fun e w' => e = .returned (.bool true) ∧ Below w.heap.size w w' := by
  have HP := Lib.hid (fun W (hW : Laid W) => parse_any s W hW (by omega))
  have HQ := Lib.hid (fun W => rparse_any s W (by omega))
  have HFN := Lib.hid (fun k => form_nn (s := s.data.toList) (k := k))
  have HLN : Hid (∀ o, parseAns s.data.toList = .toks o → o.length ≤ 1000000) := Lib.hid (fun o ho => by
    unfold parseAns ansIn at ho
    split at ho
    · split at ho
      · split at ho
        · rename_i R _
          cases R with
          | bad k => cases ho
          | ok k o' =>
            unfold ansOf at ho
            simp only at ho
            split at ho
            · split at ho
              · injection ho with ho; subst ho; omega
              · cases ho
            · cases ho
        · cases ho
      · cases ho
    · cases ho)
  generalize parseAns s.data.toList = a at *
  go_enter Tryz.func3, Tryz.ntmps3
  go_wp2_with fail
  refine (up_any _ hL).mono ?_
  rintro e w1 ⟨rfl, hb1⟩
  have HB1 := Lib.hid hb1
  have HL1 := Lib.hid (hL.after hb1)
  clear hb1
  go_wp2_with fail
  refine (HP.out _ HL1.out).mono ?_
  rintro e w2 ⟨hb2, hA⟩
  have HB2 := Lib.hid (HB1.out.trans (hb2.mono HB1.out.size))
  have HL2 := Lib.hid (HL1.out.after hb2)
  clear hb2
  cases a with
  | toks o =>
    obtain ⟨v, rfl, hown⟩ := hA
    have HT := Lib.hid (ToksAt.of_own hown)
    have HOL := Lib.hid (HLN.out o rfl)
    clear hown
    go_wp2_with fail
    refine (HQ.out _).mono ?_
    rintro e w3 ⟨hb3, v', rfl, hown⟩
    have HB3 := Lib.hid (HB2.out.trans (hb3.mono HB2.out.size))
    have HT2 := Lib.hid (HT.out.below hb3)
    have HT3 := Lib.hid (ToksAt.of_own hown)
    clear hown hb3
    go_wp2_with fail
    refine (told_nil _).mono ?_
    rintro e w4 ⟨rfl, rfl⟩
    go_wp2_with fail
    refine (same_yes v v' o _ HT2.out HT3.out HOL.out).mono ?_
    rintro e w4 ⟨rfl, n4, rfl⟩
    go_wp2
    go_ret
    exact ⟨rfl, below_drewN HB3.out _⟩
  | form k =>
    obtain ⟨g, rfl, hg, hB⟩ := hA
    have hk := HFN.out k rfl
    have HBl := Lib.hid hB
    clear hB
    go_wp2_with fail
    refine (HQ.out _).mono ?_
    rintro e w3 ⟨hb3, rfl⟩
    have HB3 := Lib.hid (HB2.out.trans (hb3.mono HB2.out.size))
    have HL3 := Lib.hid (HL2.out.after hb3)
    have HBl3 := Lib.hid (HBl.out.below hb3 HBl.out.lt)
    clear hb3
    go_wp2_with fail
    refine (told_spot g k _ HL3.out hk HBl3.out).mono ?_
    rintro e w4 ⟨rfl, hb4⟩
    have HB4 := Lib.hid (HB3.out.trans (hb4.mono HB3.out.size))
    clear hb4
    go_wp2_with fail
    refine (same_yes _ _ [] _ (toks_nil _) (toks_nil _) (by simp)).mono ?_
    rintro e w5 ⟨rfl, n5, rfl⟩
    go_wp2
    go_ret
    exact ⟨rfl, below_drewN HB4.out _⟩
  | large =>
    have hA' : e = .returned (.tuple #[.slice none 0 0, .iface 36 (.int .i64 3)]) := hA
    subst hA'
    clear hA
    go_wp2_with fail
    refine (HQ.out _).mono ?_
    rintro e w3 ⟨hb3, rfl⟩
    have HB3 := Lib.hid (HB2.out.trans (hb3.mono HB2.out.size))
    clear hb3
    go_wp2_with fail
    refine (told_code 3 3 _ (by omega) (by omega) rfl).mono ?_
    rintro e w4 ⟨rfl, rfl⟩
    go_wp2_with fail
    refine (same_yes _ _ [] _ (toks_nil _) (toks_nil _) (by simp)).mono ?_
    rintro e w5 ⟨rfl, n5, rfl⟩
    go_wp2
    go_ret
    exact ⟨rfl, below_drewN HB3.out _⟩
theorem law1 (s : ByteArray) (w : World) (hL : Laid w) (hs : s.size ≤ 9223372036854775807) :
    Calls Tryz.prog 3 #[.string s] w fun e w' => e = .returned (.bool true) ∧ Below w.heap.size w w' := by
  by_cases h : 3000 < s.size
  · exact law1_far s w hL hs h
  · exact law1_near s w hL (by omega)
end Go.Proofs.YtdeopkjpglkdhaaGreatDoor
