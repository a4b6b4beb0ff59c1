/- The contracts of slices.Clone over variables, of the document's Nums and Outs at the same, and of the law's few. -/
import Derived.Test.YtafcbgapllkghaaGreatDoorAdr
import Derived.Laws.AppendOwnNone
namespace Go.Proofs.YtafcbgapllkghaaGreatDoor
open Go.ChangeShapes Go.WideShapes Go.ChangeAt Go.RowKit
set_option linter.unusedVariables false

/-- an append of a slice that is nil -/
theorem wpList_append_nil {P : Program} {w : World} {ops : Array Oper} {rest : List Oper} {o : Oper} {a : Act} {Q : Exit → Act → World → Prop} (hgd : o.guard = none) (s x : Operand) (t : TypeId)
    (ho : o.op = .call { callee := .builtin .append, args := #[s, x], argTypes := #[t, t] })
    (base : Nat) (e : TypeId) (i : TypeInfo) (size : Nat) (ht : P.underlying t = some (.slice e)) (hi : P.info? e = some i)
    (v : Value) (n c : Nat) (xs : List Value) (hs : a.eval s = v) (hown : w.ownsRow base e size v n xs) (hx : a.eval x = .slice none 0 c)
    (h : wpList P ops Q rest (a.put o.dst v) w) : wpList P ops Q (o :: rest) a w := by
  refine wpList_plain hgd fun K hK => ?_
  have hrun : (Builtin.append_ #[t, t] o.type #[v, .slice none 0 c]).run P w = .ok v w := by
    rcases hown.2 with ⟨rfl, rfl⟩ | ⟨g, cap, cur, rfl, _, _, hnc, _⟩
    · simp [Builtin.append_, run_underlying ht, sizeOf, typeInfo, hi, Builtin.lenOf, Builtin.firstCells, go_sem]
    · simp [Builtin.append_, run_underlying ht, sizeOf, typeInfo, hi, Builtin.lenOf, Builtin.firstCells, hnc, storeCells, go_sem]
  unfold Oper.wp
  simp [execOp, ho, resolve, invoke, builtin, hs, hx, hrun, Result.andThen]
  exact hK _ _ h
theorem own_zero (w : World) (e : TypeId) (s : Nat) : (w.alloc (.cells #[] e)).ownsRow w.heap.size e s (.slice (some ⟨w.heap.size, 0, none⟩) 0 0) 0 [] :=
  ⟨by simp, .inr ⟨w.heap.size, 0, #[], rfl, Nat.le_refl _, Blk.new w e #[], Nat.le_refl _, by unfold maxLen; omega, by simp, by simp⟩⟩
theorem env_of_own {B : Nat} {w : World} {v : Value} {L : List Int} {n : Nat} (h : w.ownsRow B 2 1 v n (intVals L)) (hn : n = L.length) : OwnEnv B w v L := by
  subst hn
  exact RowAt.of_own (cells := intCells) (n := 1) (fun _ => rfl) (by rw [ints_flat]; exact h)
theorem nil_yes (c : Nat) (w : World) : (binOp .eql 23 (.slice none 0 c) (.slice none 0 0)).run Tryz.prog w = .ok (.bool true) w := by kernel_rfl
theorem nil_no (ad : Addr) (n c : Nat) (w : World) : (binOp .eql 23 (.slice (some ad) n c) (.slice none 0 0)).run Tryz.prog w = .ok (.bool false) w := by kernel_rfl
set_option maxHeartbeats 1000000 in
set_option maxRecDepth 100000 in
theorem clone_any (v : Value) (L : List Int) (w : World) (h : NumsAt w v L) (hl : L.length ≤ 1000) :
    Calls Tryz.prog 11 #[v] w fun e w' => Below w.heap.size w w' ∧ ∃ v', e = .returned v' ∧ OwnEnv w.heap.size w' v' L := by
  have hr := rowIs_ints (rows_of_nums h)
  clear h
  obtain ⟨hn, ⟨c, rfl, h0⟩ | ⟨ad, cap, rfl, hc, ho⟩⟩ := hr
  · obtain rfl : L = [] := List.eq_nil_of_length_eq_zero h0
    have hnil := fun W => nil_yes c W
    clear hn h0 hl
    go_enter Tryz.func11, Tryz.ntmps11
    go_wp2_with fail
    go_ret
    exact ⟨Below.refl _ _, _, rfl, .inl ⟨rfl, rfl⟩⟩
  · obtain ⟨i0, hi, hz0, hz1, hz2⟩ := info_parts Tryz.info2
    have HI := Lib.hid hi
    have HZ0 := Lib.hid hz0
    have HZ1 := Lib.hid hz1
    have HZ2 := Lib.hid hz2
    have HN := Lib.hid hn
    have HB := Lib.hid (below_box w (.cells #[] 2))
    have HC := Lib.hid (fun (j : Nat) (u : Value) (hj : (intVals L)[j]? = some u) => (hc j u hj))
    have HO := Lib.hid ho
    have hnil := fun W => nil_no ad L.length cap W
    clear hi hz0 hz1 hz2 hn hc ho
    go_enter Tryz.func11, Tryz.ntmps11
    go_wp2_with (at_builtin; refine wpList_append_own_at _ rfl _ _ 23 rfl w.heap.size 2 i0 (.int .i64 0) 1 8 Tryz.underlying23 HI.out HZ0.out HZ1.out HZ2.out rfl (by decide) _ 0 [] rfl (own_zero w 2 1) ad L.length cap (intVals L) rfl HN.out ?c1 HO.out ?c3 ?c4 ?c5 ?_)
    case c1 => exact fun j u hj => (HB.out.cell (Lib.lt_of_cell (HC.out j u hj))).trans (HC.out j u hj)
    case c3 => unfold maxLen; omega
    case c4 => omega
    case c5 => simp
    intro v' w2 hown' hgrow _ _
    have HG := Lib.hid (Below.grown HB.out hgrow (by simp) (fun g hg => by
      have h : some w.heap.size = some g := hg
      injection h with h
      omega))
    have HW := Lib.hid hown'
    clear hown' hgrow
    go_wp2
    go_ret
    exact ⟨HG.out, _, rfl, env_of_own (by simpa using HW.out) rfl⟩
set_option maxHeartbeats 1000000 in
set_option maxRecDepth 100000 in
/-- Nums at the same numbers -/
theorem nums_same (v u : Value) (L : List Int) (w : World) (hv : NumsAt w v L) (hu : NumsAt w u L) (hl : L.length ≤ 1000) :
    Calls Tryz.prog 8 #[v, u] w fun e w' => e = .returned (.bool true) ∧ Below w.heap.size w w' := by
  obtain ⟨A, cap, rfl, hcap, he⟩ := rows_of_nums hv
  obtain ⟨A', cap', rfl, hcap', he'⟩ := rows_of_nums hu
  have HE := Lib.hid he
  have HE' := Lib.hid he'
  clear he he' hv hu
  go_enter Tryz.func8, Tryz.ntmps8
  go_wp2_with fail
  go_loopw [5] (fun i wr => ∃ k : Nat, k ≤ L.length ∧ i = .int .i64 (k : Int) ∧ Below w.heap.size w wr) (fun i _ => L.length - (intOf i).toNat)
  case atStart => exact ⟨0, Nat.zero_le _, rfl, Below.refl _ _⟩
  case round =>
    obtain ⟨k, hk, rfl, hb⟩ := hrel
    obtain ⟨wo, rfl⟩ : ∃ wo : World, wo = wr := ⟨_, rfl⟩
    by_cases hlt : k < L.length
    · obtain ⟨b, o, rfl, hbl, hc⟩ := HE.out k _ (List.getElem?_eq_getElem hlt)
      obtain ⟨b', o', rfl, hbl', hc'⟩ := HE'.out k _ (List.getElem?_eq_getElem hlt)
      have c0 : wo.cell? ⟨b, o + k, none⟩ = some (.int .i64 L[k]) := by have := IntAt.keeps w wo b _ _ hb hbl hc; rwa [Nat.mul_one] at this
      have c0' : wo.cell? ⟨b', o' + k, none⟩ = some (.int .i64 L[k]) := by have := IntAt.keeps w wo b' _ _ hb hbl' hc'; rwa [Nat.mul_one] at this
      generalize L[k] = x at *
      have HB := Lib.hid hb
      have hxx : (x != x) = false := by simp
      clear hc hc' hb
      go_wp2_with fail
      go_quiet (fail)
      go_wp2
      go_roundw
      case rel => exact ⟨k + 1, by omega, by go_num, below_drewN HB.out _⟩
      case measure => simp [intOf]; omega
    · obtain rfl : k = L.length := by omega
      go_wp2_with fail
      go_ret
      exact ⟨rfl, hb⟩
theorem fieldsOu : Tryz.prog.underlying 41 = some (.struct (Tryz.prog.fieldsOf 41)) := by kernel_rfl
theorem heldOu : Tryz.prog.stoodInHeld 41 = false := by kernel_rfl
theorem neqOu_same (a b c d : Int) (w : World) : (binOp .neq 41 (.agg #[.int .i64 a, .int .i64 b, .int .i64 c, .int .i64 d]) (.agg #[.int .i64 a, .int .i64 b, .int .i64 c, .int .i64 d])).run Tryz.prog w = .ok (.bool false) w := by
  rw [run_neq_struct, run_equalIn_agg _ _ _ _ _ fieldsOu heldOu]
  simp [go_sem]
set_option maxHeartbeats 1000000 in
set_option maxRecDepth 100000 in
/-- Outs at the same -/
theorem outs_same (v u : Value) (L : List Ou) (w : World) (hv : OutsAt w v L) (hu : OutsAt w u L) (hl : L.length ≤ 1000) :
    Calls Tryz.prog 9 #[v, u] w fun e w' => e = .returned (.bool true) ∧ Below w.heap.size w w' := by
  obtain ⟨A, cap, rfl, hcap, he⟩ := hv
  obtain ⟨A', cap', rfl, hcap', he'⟩ := hu
  have HE := Lib.hid he
  have HE' := Lib.hid he'
  clear he he'
  go_enter Tryz.func9, Tryz.ntmps9
  go_wp2_with fail
  go_loopw [5] (fun i wr => ∃ k : Nat, k ≤ L.length ∧ i = .int .i64 (k : Int) ∧ Below w.heap.size w wr) (fun i _ => L.length - (intOf i).toNat)
  case atStart => exact ⟨0, Nat.zero_le _, rfl, Below.refl _ _⟩
  case round =>
    obtain ⟨k, hk, rfl, hb⟩ := hrel
    obtain ⟨wo, rfl⟩ : ∃ wo : World, wo = wr := ⟨_, rfl⟩
    by_cases hlt : k < L.length
    · obtain ⟨b, o, rfl, hbl, hc⟩ := HE.out k _ (List.getElem?_eq_getElem hlt)
      obtain ⟨b', o', rfl, hbl', hc'⟩ := HE'.out k _ (List.getElem?_eq_getElem hlt)
      obtain ⟨c0, c1, c2, c3⟩ := OuAt.keeps w wo b _ _ hb hbl hc
      obtain ⟨d0, d1, d2, d3⟩ := OuAt.keeps w wo b' _ _ hb hbl' hc'
      generalize L[k] = x at *
      obtain ⟨xa, xb, xc, xd⟩ := x
      simp only at c0 c1 c2 c3 d0 d1 d2 d3
      have HB := Lib.hid hb
      have hne := fun W => neqOu_same xa xb xc xd W
      clear hc hc' hb
      go_wp2_with fail
      go_quiet (fail)
      go_wp2
      go_roundw
      case rel => exact ⟨k + 1, by omega, by go_num, below_drewN HB.out _⟩
      case measure => simp [intOf]; omega
    · obtain rfl : k = L.length := by omega
      go_wp2_with fail
      go_ret
      exact ⟨rfl, hb⟩
/-! ### few -/
def fewAc (l : List Ac) : Prop := l.length ≤ 40 ∧ ∀ a ∈ l, a.expr.size ≤ 500
def FewPost (l : List Ac) (w : World) (e : Ending) (w' : World) : Prop := (∃ b, e = .returned (.bool b) ∧ (b = true → fewAc l)) ∧ w = w'
theorem FewPost.no {l : List Ac} {w : World} {e : Ending} (h : e = .returned (.bool false)) : FewPost l w e w := ⟨⟨_, h, fun h => by cases h⟩, rfl⟩
theorem FewPost.yes {l : List Ac} {w : World} {e : Ending} (h : e = .returned (.bool true)) (hf : fewAc l) : FewPost l w e w := ⟨⟨_, h, fun _ => hf⟩, rfl⟩
set_option maxHeartbeats 1000000 in
set_option maxRecDepth 100000 in
theorem few_acts (v : Value) (l : List Ac) (w : World) (hA : ActsAt w v l) (hl : Short l.length) :
    Calls Tryz.prog 5 #[v] w (FewPost l w) := by
  unfold Short at hl
  obtain ⟨A, cap, rfl, hcap, hel⟩ := hA
  have HE := Lib.hid hel
  clear hel
  go_enter Tryz.func5, Tryz.ntmps5
  go_wp2_with fail
  go_loop [3] (fun i => ∃ k : Nat, k ≤ l.length ∧ i = .int .i64 (k : Int) ∧ Hid (∀ j a, j < k → l[j]? = some a → a.expr.size ≤ 500)) (fun i => l.length - (intOf i).toNat)
  case atStart => exact ⟨0, Nat.zero_le _, rfl, Lib.hid (fun j a hj => by omega)⟩
  case round =>
    obtain ⟨k, hk, rfl, HO⟩ := hrel
    by_cases hlt : k < l.length
    · obtain ⟨b, o, rfl, hbw, hc⟩ := HE.out k _ (List.getElem?_eq_getElem hlt)
      obtain ⟨c0, c1, c2, c3⟩ := hc
      have HRO := Lib.hid (show l[k].expr.size ≤ 500 → ∀ j a, j < k + 1 → l[j]? = some a → a.expr.size ≤ 500 from fun h j a hj ha => by
        by_cases he : j = k
        · subst he
          rw [List.getElem?_eq_getElem hlt] at ha
          injection ha with ha
          exact ha ▸ h
        · exact HO.out j a (by omega) ha)
      generalize l[k] = a at *
      by_cases hz : 500 < a.expr.size
      · have hz1 : decide ((500 : Int) < (a.expr.size : Int)) = true := by simp; omega
        have hz2 : decide (500 < a.expr.size) = true := by simpa using hz
        clear hz
        go_wp2_with fail
        go_ret
        exact FewPost.no rfl
      · have hz1 : decide ((500 : Int) < (a.expr.size : Int)) = false := by simp; omega
        have hz2 : decide (500 < a.expr.size) = false := by simpa using hz
        have HZ := Lib.hid hz
        clear hz
        go_wp2
        go_round
        case rel => exact ⟨k + 1, by omega, by go_num, Lib.hid (HRO.out (by have := HZ.out; omega))⟩
        case measure => simp [intOf]; omega
    · obtain rfl : k = l.length := by omega
      by_cases hz : l.length ≤ 40
      · have hz1 : decide ((l.length : Int) ≤ (40 : Int)) = true := by simp; omega
        have hz2 : decide (l.length ≤ 40) = true := by simpa using hz
        have HZ := Lib.hid hz
        clear hz
        go_wp2_with fail
        go_ret
        exact FewPost.yes rfl ⟨HZ.out, fun a ha => by
          obtain ⟨j, hj⟩ := List.getElem?_of_mem ha
          exact HO.out j a (List.getElem?_eq_some_iff.1 hj).1 hj⟩
      · have hz1 : decide ((l.length : Int) ≤ (40 : Int)) = false := by simp; omega
        have hz2 : decide (l.length ≤ 40) = false := by simpa using hz
        clear hz
        go_wp2_with fail
        go_ret
        exact FewPost.no rfl
end Go.Proofs.YtafcbgapllkghaaGreatDoor
