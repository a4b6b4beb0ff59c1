/- The walk of the law ExprTexts: true for any text and any variables. -/
import Derived.Test.YtoiflidlnajbdaaGreatDoorEup
import Derived.Test.YtoiflidlnajbdaaGreatDoorErel
import Derived.Test.YtoiflidlnajbdaaGreatDoorErof
import Derived.Test.YtoiflidlnajbdaaGreatDoorZtold
import Derived.Laws.StructEq
namespace Go.Proofs.YtoiflidlnajbdaaGreatDoor
open Go.ChangeShapes Go.WideShapes Go.ChangeAt Go.RowKit
set_option linter.unusedVariables false

theorem fields34 : Tryz.prog.underlying 25 = some (.struct (Tryz.prog.fieldsOf 25)) := by kernel_rfl
theorem held34 : Tryz.prog.stoodInHeld 25 = false := by kernel_rfl
theorem eqv_same (a b : Int) (w : World) : (binOp .eql 25 (.agg #[.int .i64 a, .int .i64 b]) (.agg #[.int .i64 a, .int .i64 b])).run Tryz.prog w = .ok (.bool true) w := by
  rw [run_eql_struct, run_equalIn_agg _ _ _ _ _ fields34 held34]
  simp [go_sem]
theorem tokAt_at {l : List UInt8} {k e : Nat} {t : Tk} (h : tokAt l k = some (t, e)) : t.2.2 = (k : Int) := by
  unfold tokAt fixTok at h
  split at h
  · split at h
    · simp only [Option.some.injEq, Prod.mk.injEq] at h; rw [← h.1]
    · cases h
  · split at h
    · split at h
      · simp only [Option.some.injEq, Prod.mk.injEq] at h; rw [← h.1]
      · rw [Option.map_eq_some_iff] at h
        obtain ⟨j, _, h⟩ := h
        simp only [Prod.mk.injEq] at h; rw [← h.1]
    · split at h
      · rw [Option.map_eq_some_iff] at h
        obtain ⟨j, _, h⟩ := h
        simp only [Prod.mk.injEq] at h; rw [← h.1]
      · rw [Option.map_eq_some_iff] at h
        obtain ⟨j, _, h⟩ := h
        simp only [Prod.mk.injEq] at h; rw [← h.1]
theorem scanF_at (l : List UInt8) : ∀ (n k : Nat) (acc : List Tk), (∀ t ∈ acc, 0 ≤ t.2.2) → ∀ t ∈ (scanF n l k acc).1, 0 ≤ t.2.2
  | 0, k, acc, h => by rw [scanF]; exact h
  | n + 1, k, acc, h => by
    rw [scanF]
    by_cases hk : k < l.length
    · rw [if_pos hk]
      by_cases hs : isSp (l.getD k 0) = true
      · rw [if_pos hs]; exact scanF_at l n (k + 1) acc h
      · rw [if_neg hs]
        cases ht : tokAt l k with
        | none => intro t ht; cases ht
        | some x =>
          refine scanF_at l n x.2 (acc ++ [x.1]) (fun t h1 => ?_)
          rcases List.mem_append.1 h1 with h2 | h2
          · exact h t h2
          · obtain rfl := List.mem_singleton.1 h2
            rw [tokAt_at ht]; omega
    · rw [if_neg hk]; exact h
theorem byteAt_nn {ts : List Tk} {len k : Nat} (h : ∀ t ∈ ts, 0 ≤ t.2.2) : 0 ≤ byteAt ts len k := by
  unfold byteAt
  cases hg : ts[k]? with
  | none => simp
  | some t => exact h t (List.mem_of_getElem? hg)
theorem form_nn {s : List UInt8} {k : Int} (h : parseAns s = .form k) : 0 ≤ k := by
  unfold parseAns at h
  split at h
  · unfold ansIn at h
    split at h
    · obtain ⟨R, hR⟩ := readAll_some (scan s 0 []).1
      rw [hR] at h
      have hb := fun k => byteAt_nn (len := s.length) (k := k) (show ∀ t ∈ (scan s 0 []).1, 0 ≤ t.2.2 from scanF_at s _ 0 [] (fun t ht => by cases ht))
      cases R with
      | bad k' => unfold ansOf at h; injection h with h; rw [← h]; exact hb k'
      | ok k' o =>
        unfold ansOf at h
        simp only at h
        split at h
        · split at h <;> cases h
        · injection h with h; rw [← h]; exact hb k'
    · rename_i hn
      injection h with h
      rcases scan_cases s with h1 | ⟨k', h1⟩
      · exact absurd h1 hn
      · rw [← h, h1]; simp
  · cases h
set_option maxHeartbeats 2000000 in
set_option maxRecDepth 100000 in
theorem lawt_far (s : ByteArray) (eA : Option Addr) (len ecap : Nat) (w : World) (hL : Laid w) (hs : s.size ≤ 9223372036854775807) (hs2 : len ≤ 9223372036854775807) (h : 3000 < s.size ∨ (s.size ≤ 3000 ∧ 100 < len)) :
    Calls Tryz.prog 3 #[.string s, .slice eA len ecap] w fun e w' => e = .returned (.bool true) ∧ Below w.heap.size w w' := by
  rcases h with h | ⟨h, h2⟩
  · have hd : decide ((3000 : Int) < (s.size : Int)) = true := by simp; omega
    have hd2 : decide (3000 < s.size) = true := by simpa using h
    go_enter Tryz.func3, Tryz.ntmps3
    go_wp2_with fail
    refine (up_any _ hL).mono ?_
    rintro e w1 ⟨rfl, hb1⟩
    have HB1 := Lib.hid hb1
    clear hb1
    go_wp2
    go_ret
    exact ⟨rfl, HB1.out⟩
  · have hd : decide ((3000 : Int) < (s.size : Int)) = false := by simp; omega
    have hd2 : decide (3000 < s.size) = false := by simpa using h
    have hd3 : decide ((100 : Int) < (len : Int)) = true := by simp; omega
    have hd4 : decide (100 < len) = true := by simpa using h2
    go_enter Tryz.func3, Tryz.ntmps3
    go_wp2_with fail
    refine (up_any _ hL).mono ?_
    rintro e w1 ⟨rfl, hb1⟩
    have HB1 := Lib.hid hb1
    clear hb1
    go_wp2
    go_ret
    exact ⟨rfl, HB1.out⟩
set_option maxHeartbeats 4000000 in
set_option maxRecDepth 100000 in
theorem lawt_near (s : ByteArray) (eA : Option Addr) (ecap : Nat) (env : List Int) (w : World) (hL : Laid w) (h : s.size ≤ 3000) (h2 : env.length ≤ 100) (hE : NumsAt w (.slice eA env.length ecap) env) (hef : ∀ x ∈ env, F64 x) :
    Calls Tryz.prog 3 #[.string s, .slice eA env.length ecap] w fun e w' => e = .returned (.bool true) ∧ Below w.heap.size w w' := by
  have HP := Lib.hid (fun W (hW : Laid W) hX => of_any s (.slice eA env.length ecap) env W hW (by omega) hX (by omega) hef)
  have HQ := Lib.hid (fun W hX => rof_any s (.slice eA env.length ecap) env W (by omega) hX (by omega) hef)
  have HFN := Lib.hid (fun k => form_nn (s := s.data.toList) (k := k))
  have HAC := Lib.hid (fun o (ho : parseAns s.data.toList = .toks o) => ans_cases ⟨false, env, 0⟩ o (parse_toks ho).2.1 hef)
  have hd : decide ((3000 : Int) < (s.size : Int)) = false := by simp; omega
  have hd2 : decide (3000 < s.size) = false := by simpa using h
  have hd3 : decide ((100 : Int) < (env.length : Int)) = false := by simp; omega
  have hd4 : decide (100 < env.length) = false := by simpa using h2
  have HE := Lib.hid hE
  have HL := Lib.hid hL
  generalize parseAns s.data.toList = a at *
  clear hL hE hef
  cases a with
  | toks o =>
    rcases HAC.out o rfl with ⟨k, n, hk, _⟩ | ⟨c, hk, hc1, hc13⟩
    · have HK := Lib.hid hk
      clear hk
      have hse := eqv_same k n
      go_enter Tryz.func3, Tryz.ntmps3
      go_wp2_with fail
      refine (up_any _ HL.out).mono ?_
      rintro e w1 ⟨rfl, hb1⟩
      have HB1 := Lib.hid hb1
      have HL1 := Lib.hid (HL.out.after hb1)
      have HE1 := Lib.hid (HE.out.below hb1)
      clear hb1
      go_wp2_with fail
      refine (HP.out _ HL1.out HE1.out).mono ?_
      intro e w2 hA
      have hA2 : VPost (ans ⟨false, env, 0⟩ o) w1 e w2 := hA
      rw [HK.out] at hA2
      obtain ⟨hb2, he⟩ := hA2
      have he' : e = .returned (.tuple #[.agg #[.int .i64 k, .int .i64 n], .nilIface]) := he
      subst he'
      clear he hA
      have hba : Below w2.heap.size w2 (w2.alloc (.cells #[.int .i64 k, .int .i64 n] 25)) := (Below.refl _ _).alloc (Nat.le_refl _) _
      have HB2 := Lib.hid ((HB1.out.trans (hb2.mono HB1.out.size)).alloc (Nat.le_trans HB1.out.size hb2.size) (.cells #[.int .i64 k, .int .i64 n] 25))
      have HL2 := Lib.hid ((HL1.out.after hb2).after hba)
      have HE2 := Lib.hid ((HE1.out.below hb2).below hba)
      have HVB := Lib.hid (Blk.new w2 25 #[.int .i64 k, .int .i64 n])
      clear hb2 hba
      go_wp2_with fail
      refine (HQ.out _ HE2.out).mono ?_
      rintro e w3 ⟨hb3, he3⟩
      have he3' : e = .returned (.tuple #[.agg #[.int .i64 k, .int .i64 n], .int .i64 0, .int .i64 (-1)]) := by have h : e = .returned (.tuple #[.agg #[.int .i64 (ans ⟨false, env, 0⟩ o).kind, .int .i64 (ans ⟨false, env, 0⟩ o).num], .int .i64 (ans ⟨false, env, 0⟩ o).code, .int .i64 (-1)]) := he3; rw [HK.out] at h; exact h
      subst he3'
      have hbb : Below w3.heap.size w3 (w3.alloc (.cells #[.int .i64 k, .int .i64 n] 25)) := (Below.refl _ _).alloc (Nat.le_refl _) _
      have HB3 := Lib.hid ((HB2.out.trans (hb3.mono HB2.out.size)).alloc (Nat.le_trans HB2.out.size hb3.size) (.cells #[.int .i64 k, .int .i64 n] 25))
      have HVB3 := Lib.hid (HVB.out.below hb3 HVB.out.lt)
      have HL3 := Lib.hid ((HL2.out.after hb3).after hbb)
      obtain ⟨⟨v0, v1⟩, _⟩ := HVB3.out.facts2
      have hlt : w2.heap.size < w3.heap.size := HVB3.out.lt
      clear hb3 hbb he3
      go_wp2_with fail
      refine (told_nil _).mono ?_
      rintro e w4 ⟨rfl, rfl⟩
      go_wp2
      go_ret
      exact ⟨rfl, HB3.out⟩
    · have HK := Lib.hid hk
      clear hk
      have hse := eqv_same 0 0
      go_enter Tryz.func3, Tryz.ntmps3
      go_wp2_with fail
      refine (up_any _ HL.out).mono ?_
      rintro e w1 ⟨rfl, hb1⟩
      have HB1 := Lib.hid hb1
      have HL1 := Lib.hid (HL.out.after hb1)
      have HE1 := Lib.hid (HE.out.below hb1)
      clear hb1
      go_wp2_with fail
      refine (HP.out _ HL1.out HE1.out).mono ?_
      intro e w2 hA
      have hA2 : VPost (ans ⟨false, env, 0⟩ o) w1 e w2 := hA
      rw [HK.out] at hA2
      obtain ⟨hb2, he⟩ := hA2
      have he' : e = .returned (.tuple #[.agg #[.int .i64 0, .int .i64 0], .iface 39 (.int .i64 (c : Int))]) := he
      subst he'
      clear he hA
      have hba : Below w2.heap.size w2 (w2.alloc (.cells #[.int .i64 0, .int .i64 0] 25)) := (Below.refl _ _).alloc (Nat.le_refl _) _
      have HB2 := Lib.hid ((HB1.out.trans (hb2.mono HB1.out.size)).alloc (Nat.le_trans HB1.out.size hb2.size) (.cells #[.int .i64 0, .int .i64 0] 25))
      have HL2 := Lib.hid ((HL1.out.after hb2).after hba)
      have HE2 := Lib.hid ((HE1.out.below hb2).below hba)
      have HVB := Lib.hid (Blk.new w2 25 #[.int .i64 0, .int .i64 0])
      clear hb2 hba
      go_wp2_with fail
      refine (HQ.out _ HE2.out).mono ?_
      rintro e w3 ⟨hb3, he3⟩
      have he3' : e = .returned (.tuple #[.agg #[.int .i64 0, .int .i64 0], .int .i64 (c : Int), .int .i64 (-1)]) := by have h : e = .returned (.tuple #[.agg #[.int .i64 (ans ⟨false, env, 0⟩ o).kind, .int .i64 (ans ⟨false, env, 0⟩ o).num], .int .i64 (ans ⟨false, env, 0⟩ o).code, .int .i64 (-1)]) := he3; rw [HK.out] at h; exact h
      subst he3'
      have hbb : Below w3.heap.size w3 (w3.alloc (.cells #[.int .i64 0, .int .i64 0] 25)) := (Below.refl _ _).alloc (Nat.le_refl _) _
      have HB3 := Lib.hid ((HB2.out.trans (hb3.mono HB2.out.size)).alloc (Nat.le_trans HB2.out.size hb3.size) (.cells #[.int .i64 0, .int .i64 0] 25))
      have HVB3 := Lib.hid (HVB.out.below hb3 HVB.out.lt)
      have HL3 := Lib.hid ((HL2.out.after hb3).after hbb)
      obtain ⟨⟨v0, v1⟩, _⟩ := HVB3.out.facts2
      have hlt : w2.heap.size < w3.heap.size := HVB3.out.lt
      clear hb3 hbb he3
      go_wp2_with fail
      refine (told_code c _ _ hc1 hc13 rfl).mono ?_
      rintro e w4 ⟨rfl, rfl⟩
      go_wp2
      go_ret
      exact ⟨rfl, HB3.out⟩
  | form k =>
    have hk := HFN.out k rfl
    have hse := eqv_same 0 0
    go_enter Tryz.func3, Tryz.ntmps3
    go_wp2_with fail
    refine (up_any _ HL.out).mono ?_
    rintro e w1 ⟨rfl, hb1⟩
    have HB1 := Lib.hid hb1
    have HL1 := Lib.hid (HL.out.after hb1)
    have HE1 := Lib.hid (HE.out.below hb1)
    clear hb1
    go_wp2_with fail
    refine (HP.out _ HL1.out HE1.out).mono ?_
    intro e w2 hA
    obtain ⟨hb2, g, rfl, hg, hB⟩ := hA
    have hba : Below w2.heap.size w2 (w2.alloc (.cells #[.int .i64 0, .int .i64 0] 25)) := (Below.refl _ _).alloc (Nat.le_refl _) _
    have HB2 := Lib.hid ((HB1.out.trans (hb2.mono HB1.out.size)).alloc (Nat.le_trans HB1.out.size hb2.size) (.cells #[.int .i64 0, .int .i64 0] 25))
    have HL2 := Lib.hid ((HL1.out.after hb2).after hba)
    have HE2 := Lib.hid ((HE1.out.below hb2).below hba)
    have HVB := Lib.hid (Blk.new w2 25 #[.int .i64 0, .int .i64 0])
    have HS2 := Lib.hid (hB.alloc (.cells #[.int .i64 0, .int .i64 0] 25))
    clear hb2 hba
    go_wp2_with fail
    refine (HQ.out _ HE2.out).mono ?_
    rintro e w3 ⟨hb3, he3⟩
    have he3' : e = .returned (.tuple #[.agg #[.int .i64 0, .int .i64 0], .int .i64 2, .int .i64 k]) := he3
    subst he3'
    have hbb : Below w3.heap.size w3 (w3.alloc (.cells #[.int .i64 0, .int .i64 0] 25)) := (Below.refl _ _).alloc (Nat.le_refl _) _
    have HB3 := Lib.hid ((HB2.out.trans (hb3.mono HB2.out.size)).alloc (Nat.le_trans HB2.out.size hb3.size) (.cells #[.int .i64 0, .int .i64 0] 25))
    have HVB3 := Lib.hid (HVB.out.below hb3 HVB.out.lt)
    have HL3 := Lib.hid ((HL2.out.after hb3).after hbb)
    have HS3 := Lib.hid ((HS2.out.below hb3 HS2.out.lt).alloc (.cells #[.int .i64 0, .int .i64 0] 25))
    obtain ⟨⟨v0, v1⟩, _⟩ := HVB3.out.facts2
    have hlt : w2.heap.size < w3.heap.size := HVB3.out.lt
    clear hb3 hbb he3
    go_wp2_with fail
    refine (told_spot g k _ HL3.out hk HS3.out).mono ?_
    rintro e w4 ⟨rfl, hb4⟩
    have HB4 := Lib.hid (HB3.out.trans (hb4.mono HB3.out.size))
    go_wp2
    go_ret
    exact ⟨rfl, HB4.out⟩
  | large =>
    have hse := eqv_same 0 0
    go_enter Tryz.func3, Tryz.ntmps3
    go_wp2_with fail
    refine (up_any _ HL.out).mono ?_
    rintro e w1 ⟨rfl, hb1⟩
    have HB1 := Lib.hid hb1
    have HL1 := Lib.hid (HL.out.after hb1)
    have HE1 := Lib.hid (HE.out.below hb1)
    clear hb1
    go_wp2_with fail
    refine (HP.out _ HL1.out HE1.out).mono ?_
    intro e w2 hA
    obtain ⟨hb2, he⟩ := hA
    subst he
    have hba : Below w2.heap.size w2 (w2.alloc (.cells #[.int .i64 0, .int .i64 0] 25)) := (Below.refl _ _).alloc (Nat.le_refl _) _
    have HB2 := Lib.hid ((HB1.out.trans (hb2.mono HB1.out.size)).alloc (Nat.le_trans HB1.out.size hb2.size) (.cells #[.int .i64 0, .int .i64 0] 25))
    have HL2 := Lib.hid ((HL1.out.after hb2).after hba)
    have HE2 := Lib.hid ((HE1.out.below hb2).below hba)
    have HVB := Lib.hid (Blk.new w2 25 #[.int .i64 0, .int .i64 0])
    clear hb2 hba
    go_wp2_with fail
    refine (HQ.out _ HE2.out).mono ?_
    rintro e w3 ⟨hb3, he3⟩
    have he3' : e = .returned (.tuple #[.agg #[.int .i64 0, .int .i64 0], .int .i64 3, .int .i64 (-1)]) := he3
    subst he3'
    have hbb : Below w3.heap.size w3 (w3.alloc (.cells #[.int .i64 0, .int .i64 0] 25)) := (Below.refl _ _).alloc (Nat.le_refl _) _
    have HB3 := Lib.hid ((HB2.out.trans (hb3.mono HB2.out.size)).alloc (Nat.le_trans HB2.out.size hb3.size) (.cells #[.int .i64 0, .int .i64 0] 25))
    have HVB3 := Lib.hid (HVB.out.below hb3 HVB.out.lt)
    have HL3 := Lib.hid ((HL2.out.after hb3).after hbb)
    obtain ⟨⟨v0, v1⟩, _⟩ := HVB3.out.facts2
    have hlt : w2.heap.size < w3.heap.size := HVB3.out.lt
    clear hb3 hbb he3
    go_wp2_with fail
    refine (told_code 3 3 _ (by omega) (by omega) rfl).mono ?_
    rintro e w4 ⟨rfl, rfl⟩
    go_wp2
    go_ret
    exact ⟨rfl, HB3.out⟩
end Go.Proofs.YtoiflidlnajbdaaGreatDoor
