/- DequeOnce: what was pushed is stolen, from the front on, or popped, from the back on, each once. -/
import Derived.Test.YtpeaajimnggjpaaDarg
namespace Go.Proofs.Ytpeaajimnggjpaa
open Go.ChangeShapes Go.WideShapes Go.ChangeAt Go.RowKit
set_option linter.unusedVariables false

def strs (l : List ByteArray) : List Value := l.map fun s => .string s
theorem strs_len (l : List ByteArray) : (strs l).length = l.length := by simp [strs]
theorem strs_app (l : List ByteArray) (s : ByteArray) : strs (l ++ [s]) = strs l ++ [.string s] := by simp [strs]
theorem take_more {l : List ByteArray} {i : Nat} {s : ByteArray} (h : l[i]? = some s) : strs (l.take (i + 1)) = strs (l.take i) ++ [.string s] := by
  rw [List.take_add_one, h, ← strs_app]; rfl
theorem drop_more {l : List ByteArray} {i : Nat} {s : ByteArray} (h : l[i]? = some s) : strs (l.drop i) = .string s :: strs (l.drop (i + 1)) := by
  obtain ⟨hlt, rfl⟩ := List.getElem?_eq_some_iff.1 h
  rw [List.drop_eq_getElem_cons hlt]; rfl
theorem mid_more {l : List ByteArray} {st k : Nat} {s : ByteArray} (hst : st ≤ k) (h : l[k]? = some s) : strs ((l.drop st).take (k + 1 - st)) = strs ((l.drop st).take (k - st)) ++ [.string s] := by
  have e : (l.drop st)[k - st]? = some s := by rw [List.getElem?_drop, show st + (k - st) = k by omega, h]
  rw [show k + 1 - st = k - st + 1 by omega, take_more e]
set_option maxHeartbeats 2000000 in
set_option maxRecDepth 100000 in
theorem once_let (A1 : Option Addr) (n1 c1 : Nat) (st : Int) (w : World) (h : 300 < n1 ∨ st < 0 ∨ (n1 : Int) < st) : Calls Try.prog 4 #[.slice A1 n1 c1, .int .i64 st] w fun e w' => e = .returned (.bool true) ∧ Below w.heap.size w w' := by
  have HU := Lib.hid (up_any w)
  by_cases ha : 300 < n1
  · have haz : 300 < (n1 : Int) := by omega
    clear h
    go_enter Try.func4, Try.ntmps4
    go_wp2_with fail
    refine HU.out.mono ?_
    rintro e w1 ⟨rfl, hb1⟩
    have HB1 := Lib.hid hb1
    clear hb1
    go_wp2_with fail
    go_ret
    exact ⟨rfl, HB1.out⟩
  · have haz : ¬ 300 < (n1 : Int) := by omega
    by_cases hs : st < 0
    · clear h
      go_enter Try.func4, Try.ntmps4
      go_wp2_with fail
      refine HU.out.mono ?_
      rintro e w1 ⟨rfl, hb1⟩
      have HB1 := Lib.hid hb1
      clear hb1
      go_wp2_with fail
      go_ret
      exact ⟨rfl, HB1.out⟩
    · have hz : (n1 : Int) < st := by omega
      clear h
      go_enter Try.func4, Try.ntmps4
      go_wp2_with fail
      refine HU.out.mono ?_
      rintro e w1 ⟨rfl, hb1⟩
      have HB1 := Lib.hid hb1
      clear hb1
      go_wp2_with fail
      go_ret
      exact ⟨rfl, HB1.out⟩
set_option maxHeartbeats 4000000 in
set_option maxRecDepth 100000 in
theorem once_main (v1 : Value) (l : List ByteArray) (st : Nat) (w : World) (hL : RowsAt 1 TxAt w v1 l) (hl : l.length ≤ 300) (hst : st ≤ l.length) : Calls Try.prog 4 #[v1, .int .i64 (st : Int)] w fun e w' => e = .returned (.bool true) ∧ Below w.heap.size w w' := by
  have HU := Lib.hid (up_any w)
  obtain ⟨A1, cap1, rfl, hc1, he1⟩ := hL
  have HE1 := Lib.hid he1
  have haz : ¬ 300 < (l.length : Int) := by omega
  have hbz : ¬ (st : Int) < 0 := by omega
  have hcz : ¬ (l.length : Int) < (st : Int) := by omega
  have hcn : ¬ l.length < st := by omega
  obtain ⟨W0, HW0⟩ : ∃ W0, Hid (W0 = w.heap.size) := ⟨_, Lib.hid rfl⟩
  clear hc1 he1
  go_enter Try.func4, Try.ntmps4
  go_wp2_with fail
  refine HU.out.mono ?_
  rintro e w1 ⟨rfl, hb1⟩
  have hd2 := (DqAt.new w1 37 9).base (B' := W0) (by rw [HW0.out]; exact hb1.size)
  have HB2 : Hid (Below w.heap.size w (w1.alloc (.cells #[.slice none 0 0] 37))) := Lib.hid (hb1.trans ((below_box w1 _).mono hb1.size))
  clear hb1
  obtain ⟨g, hg⟩ : ∃ g, g = w1.heap.size := ⟨_, rfl⟩
  rw [← hg] at hd2
  have HD2 := Lib.hid hd2
  have HG := Lib.hid hg
  clear hd2 hg
  go_wp2_with fail
  rw [← HG.out]
  go_loopg [7] l.length (fun kx s7 wr => ∃ (i : Nat) (v : Value), s7 = .int .i64 (i : Int) ∧ i ≤ l.length ∧ l.length - i ≤ kx ∧ Hid (DqAt W0 wr g 37 9 v (strs (l.take i))) ∧ Hid (Below w.heap.size w wr))
  case atStart => exact ⟨0, _, rfl, Nat.zero_le _, by omega, HD2, HB2⟩
  case round =>
    clear HD2 HB2
    obtain ⟨i, v, hs7, hi, hkx, HD, HB⟩ := hrel
    subst hs7
    obtain ⟨wi, rfl⟩ : ∃ W : World, W = wr := ⟨_, rfl⟩
    by_cases hlt : i < l.length
    · have hltz : (i : Int) < (l.length : Int) := by omega
      have hx := List.getElem?_eq_getElem hlt
      obtain ⟨b, o, rfl, hbl, hc⟩ := HE1.out i _ hx
      have c0 : wi.cell? ⟨b, o + i, none⟩ = some (.string l[i]) := by have := TxAt.keeps w wi b _ _ HB.out hbl hc; rwa [Nat.mul_one] at this
      have HT := Lib.hid (take_more hx)
      generalize l[i] = x at c0 HT
      have HC := Lib.hid (pushS_any W0 g v _ x wi HD.out (by rw [strs_len, List.length_take]; omega) (by rw [HW0.out]; exact HB.out.size))
      rw [← HT.out] at HC
      have wi1 : IntKind.i64.wrap ((i : Int) + 1) = (i : Int) + 1 := by rw [IntKind.wrap_i64]; omega
      clear hx hc hbl
      go_wp2_with fail
      refine HC.out.mono ?_
      rintro e w4 ⟨rfl, v4, hd4, hk4, ho4⟩
      have HD4 := Lib.hid hd4
      have HB4 : Hid (Below w.heap.size w w4) := Lib.hid (dq_frame HD.out (by rw [HW0.out]; exact Nat.le_refl _) HB.out hk4)
      clear hd4 hk4 ho4 c0
      go_wp2_with fail
      go_roundg (l.length - (i + 1))
      case measure => omega
      case rel => exact ⟨i + 1, v4, by go_num, by omega, by omega, HD4, HB4⟩
    · have hltz : ¬ (i : Int) < (l.length : Int) := by omega
      obtain rfl : i = l.length := by omega
      have HDX : Hid (DqAt W0 wi g 37 9 v (strs (l.drop 0))) := Lib.hid (by have := HD.out; rwa [List.take_length] at this)
      clear HD hltz hlt
      go_wp2_with fail
      go_loopg [8] st (fun kx s8 wr => ∃ (i : Nat) (v : Value), s8 = .int .i64 (i : Int) ∧ i ≤ st ∧ st - i ≤ kx ∧ Hid (DqAt W0 wr g 37 9 v (strs (l.drop i))) ∧ Hid (Below w.heap.size w wr))
      case atStart => exact ⟨0, _, rfl, Nat.zero_le _, by omega, HDX, HB⟩
      case round =>
        clear HDX HB
        obtain ⟨i, v, hs8, hi, hkx, HD, HB⟩ := hrel
        subst hs8
        obtain ⟨wi, rfl⟩ : ∃ W : World, W = wr := ⟨_, rfl⟩
        by_cases hlt : i < st
        · have hltz : (i : Int) < (st : Int) := by omega
          have hx := List.getElem?_eq_getElem (show i < l.length by omega)
          obtain ⟨b, o, rfl, hbl, hc⟩ := HE1.out i _ hx
          have HCX : Hid (∀ W, Below w.heap.size w W → W.cell? ⟨b, o + i, none⟩ = some (.string l[i])) := Lib.hid fun W hb => by have := TxAt.keeps w W b _ _ hb hbl hc; rwa [Nat.mul_one] at this
          have HT := Lib.hid (drop_more hx)
          generalize l[i] = x at HCX HT
          rw [HT.out] at HD
          have HC := Lib.hid (stealS_some W0 g v _ x wi HD.out (by rw [strs_len, List.length_drop]; omega))
          have wi1 : IntKind.i64.wrap ((i : Int) + 1) = (i : Int) + 1 := by rw [IntKind.wrap_i64]; omega
          have hltl : (i : Int) < (l.length : Int) := by omega
          clear hx hc hbl
          go_wp2_with fail
          refine HC.out.mono ?_
          rintro e w4 ⟨rfl, v4, hd4, hk4, ho4⟩
          have HD4 := Lib.hid hd4
          have HB4 : Hid (Below w.heap.size w w4) := Lib.hid (dq_frame HD.out (by rw [HW0.out]; exact Nat.le_refl _) HB.out hk4)
          have c0 := HCX.out w4 HB4.out
          clear hd4 hk4 ho4
          go_wp2_with fail
          go_roundg (st - (i + 1))
          case measure => omega
          case rel => exact ⟨i + 1, v4, by go_num, by omega, by omega, HD4, HB4⟩
        · have hltz : ¬ (i : Int) < (st : Int) := by omega
          obtain rfl : i = st := by omega
          obtain ⟨n, hn⟩ : ∃ n, n = l.length := ⟨_, rfl⟩
          have HDX : Hid (DqAt W0 wi g 37 9 v (strs ((l.drop i).take (n - i)))) := Lib.hid (by have := HD.out; rwa [hn, List.take_of_length_le (by rw [List.length_drop]; omega)])
          have wl1 : IntKind.i64.wrap ((l.length : Int) - 1) = (n : Int) - 1 := by rw [IntKind.wrap_i64]; omega
          have hnl := Lib.hid (Nat.le_of_eq hn)
          have hni : Hid (i ≤ n) := Lib.hid (by omega)
          clear HD hltz hlt hn
          go_wp2_with fail
          go_loopg [11] (n - i) (fun kx s11 wr => ∃ (k : Nat) (v : Value), s11 = .int .i64 ((k : Int) - 1) ∧ i ≤ k ∧ k ≤ n ∧ k - i ≤ kx ∧ Hid (DqAt W0 wr g 37 9 v (strs ((l.drop i).take (k - i)))) ∧ Hid (Below w.heap.size w wr))
          case atStart => exact ⟨n, _, rfl, hni.out, Nat.le_refl _, by omega, HDX, HB⟩
          case round =>
            clear HDX HB
            obtain ⟨k', v, hs11, hik, hkn, hkx, HD, HB⟩ := hrel
            subst hs11
            obtain ⟨wi, rfl⟩ : ∃ W : World, W = wr := ⟨_, rfl⟩
            by_cases hlt : i < k'
            · obtain ⟨k, rfl⟩ : ∃ k, k' = k + 1 := ⟨k' - 1, by omega⟩
              have e1 : (((k + 1 : Nat) : Int) - 1) = (k : Int) := by omega
              rw [e1]
              have hltz : (i : Int) ≤ (k : Int) := by omega
              have hnle := hnl.out
              have hx := List.getElem?_eq_getElem (show k < l.length by omega)
              obtain ⟨b, o, rfl, hbl, hc⟩ := HE1.out k _ hx
              have HCX : Hid (∀ W, Below w.heap.size w W → W.cell? ⟨b, o + k, none⟩ = some (.string l[k])) := Lib.hid fun W hb => by have := TxAt.keeps w W b _ _ hb hbl hc; rwa [Nat.mul_one] at this
              have HT := Lib.hid (mid_more (st := i) (by omega) hx)
              have hltl : (k : Int) < (l.length : Int) := by omega
              have hltn : k < l.length := by omega
              generalize l[k] = x at HCX HT
              rw [HT.out] at HD
              have HC := Lib.hid (popS_some W0 g v _ x wi HD.out (by rw [strs_len, List.length_take]; omega))
              have wi1 : IntKind.i64.wrap ((k : Int) - 1) = (k : Int) - 1 := by rw [IntKind.wrap_i64]; omega
              have hk0 : (0 : Int) ≤ (k : Int) := by omega
              clear hx hc hbl hnle
              go_wp2_with fail
              refine HC.out.mono ?_
              rintro e w4 ⟨rfl, v4, hd4, hk4, ho4⟩
              have HD4 := Lib.hid hd4
              have HB4 : Hid (Below w.heap.size w w4) := Lib.hid (dq_frame HD.out (by rw [HW0.out]; exact Nat.le_refl _) HB.out hk4)
              have c0 := HCX.out w4 HB4.out
              clear hd4 hk4 ho4
              go_wp2_with fail
              go_roundg (k - i)
              case measure => omega
              case rel => exact ⟨k, v4, rfl, by omega, by omega, by omega, HD4, HB4⟩
            · obtain rfl : k' = i := by omega
              have hltz : ¬ (k' : Int) ≤ (k' : Int) - 1 := by omega
              have HDY : Hid (DqAt W0 wi g 37 9 v []) := Lib.hid (by have := HD.out; rwa [Nat.sub_self] at this)
              have HC1 := Lib.hid (popS_none W0 g v wi HDY.out)
              have HC2 := Lib.hid (stealS_none W0 g v wi HDY.out)
              have HC3 := Lib.hid (lenS_any W0 g v _ wi HDY.out)
              clear HD
              go_wp2_with fail
              refine HC1.out.mono ?_
              rintro e w4 ⟨rfl, rfl⟩
              go_wp2_with fail
              refine HC2.out.mono ?_
              rintro e w5 ⟨rfl, rfl⟩
              go_wp2_with fail
              refine HC3.out.mono ?_
              rintro e w6 ⟨rfl, rfl⟩
              go_wp2_with fail
              go_ret
              exact ⟨rfl, HB.out⟩
theorem once_any (v1 : Value) (l : List ByteArray) (st : Int) (w : World) (hL : RowsAt 1 TxAt w v1 l) : Calls Try.prog 4 #[v1, .int .i64 st] w fun e w' => e = .returned (.bool true) ∧ Below w.heap.size w w' := by
  by_cases h : 300 < l.length ∨ st < 0 ∨ (l.length : Int) < st
  · obtain ⟨A1, cap1, rfl, _⟩ := hL
    exact once_let A1 _ cap1 st w h
  · obtain ⟨n, rfl⟩ : ∃ n : Nat, st = (n : Int) := ⟨st.toNat, by omega⟩
    exact once_main v1 l n w hL (by omega) (by omega)
end Go.Proofs.Ytpeaajimnggjpaa
