/- Blocks of five, six cells. No function is called in this text. -/
import Derived.Test.YtfmlicpholjjhaaGreatDoorCarg
import Derived.Test.YtfmlicpholjjhaaGreatDoorCref
import Derived.Test.YtfmlicpholjjhaaGreatDoorCchk
import Derived.Laws.StructEq
namespace Go.Proofs.YtfmlicpholjjhaaGreatDoor
open Go.ChangeShapes Go.WideShapes Go.ChangeAt Go.RowKit
set_option linter.unusedVariables false
theorem blk5_facts {w : World} {g t : Nat} {a b c d e : Value} (h : Blk w g t #[a, b, c, d, e]) : (w.cell? ⟨g, 0, none⟩ = some a ∧ w.cell? ⟨g, 1, none⟩ = some b ∧ w.cell? ⟨g, 2, none⟩ = some c ∧ w.cell? ⟨g, 3, none⟩ = some d ∧ w.cell? ⟨g, 4, none⟩ = some e) ∧ w.frozen? ⟨g, 0, none⟩ = false ∧ w.frozen? ⟨g, 1, none⟩ = false ∧ w.frozen? ⟨g, 2, none⟩ = false ∧ w.frozen? ⟨g, 3, none⟩ = false ∧ w.frozen? ⟨g, 4, none⟩ = false :=
  ⟨⟨h.cell 0, h.cell 1, h.cell 2, h.cell 3, h.cell 4⟩, h.frozen 0, h.frozen 1, h.frozen 2, h.frozen 3, h.frozen 4⟩
theorem blk6_facts {w : World} {g t : Nat} {a b c d e f : Value} (h : Blk w g t #[a, b, c, d, e, f]) : (w.cell? ⟨g, 0, none⟩ = some a ∧ w.cell? ⟨g, 1, none⟩ = some b ∧ w.cell? ⟨g, 2, none⟩ = some c ∧ w.cell? ⟨g, 3, none⟩ = some d ∧ w.cell? ⟨g, 4, none⟩ = some e ∧ w.cell? ⟨g, 5, none⟩ = some f) ∧ w.frozen? ⟨g, 0, none⟩ = false ∧ w.frozen? ⟨g, 1, none⟩ = false ∧ w.frozen? ⟨g, 2, none⟩ = false ∧ w.frozen? ⟨g, 3, none⟩ = false ∧ w.frozen? ⟨g, 4, none⟩ = false ∧ w.frozen? ⟨g, 5, none⟩ = false :=
  ⟨⟨h.cell 0, h.cell 1, h.cell 2, h.cell 3, h.cell 4, h.cell 5⟩, h.frozen 0, h.frozen 1, h.frozen 2, h.frozen 3, h.frozen 4, h.frozen 5⟩
end Go.Proofs.YtfmlicpholjjhaaGreatDoor
/- The contract of the document's Same at two charts that are the same, in whatever memory. -/
namespace Go.Proofs.YtfmlicpholjjhaaGreatDoor
open Go.ChangeShapes Go.WideShapes Go.ChangeAt Go.RowKit
set_option linter.unusedVariables false

theorem fields60 : Tryz.prog.underlying 79 = some (.struct (Tryz.prog.fieldsOf 79)) := by kernel_rfl
theorem held60 : Tryz.prog.stoodInHeld 79 = false := by kernel_rfl
theorem eql_ac (a b c : Int) (s : ByteArray) (w : World) : (binOp .eql 79 (.agg #[.int .i64 a, .int .i64 b, .int .i64 c, .string s]) (.agg #[.int .i64 a, .int .i64 b, .int .i64 c, .string s])).run Tryz.prog w = .ok (.bool true) w := by
  rw [run_eql_struct, run_equalIn_agg _ _ _ _ _ fields60 held60]
  simp [go_sem]
theorem neq_ac (a b c : Int) (s : ByteArray) (w : World) : (binOp .neq 79 (.agg #[.int .i64 a, .int .i64 b, .int .i64 c, .string s]) (.agg #[.int .i64 a, .int .i64 b, .int .i64 c, .string s])).run Tryz.prog w = .ok (.bool false) w := by
  rw [run_neq_struct, run_equalIn_agg _ _ _ _ _ fields60 held60]
  simp [go_sem]
theorem trAt_nat' {T : List Tr} {k : Nat} (h : k < T.length) : T[k]? = some (T.getD k noTr) := by simp [List.getD, List.getElem?_eq_getElem h]
theorem ChHas.smt {w : World} {vs : Value} {C : Ch} {A : Option Addr} {n cap : Nat} (h : ChHas w vs (.slice A n cap) C) {k : Nat} (hk : k < C.trs.length) :
    ∃ (b o : Nat) (vt va : Value), A = some ⟨b, o, none⟩ ∧ b < w.heap.size ∧ TrC w b (o + k * 6) (C.trs.getD k noTr) vt va ∧ TrHas w vt va (C.trs.getD k noTr) := by
  obtain ⟨_, ⟨A', cap', hv, hc, hi⟩⟩ := h
  injection hv with e1 e2 e3
  subst e1
  obtain ⟨b, o, hA, hlt, vt, va, h0, h1⟩ := hi k _ (trAt_nat' hk)
  exact ⟨b, o, vt, va, hA, hlt, h0, h1⟩
theorem ChHas.sms {w : World} {vt : Value} {C : Ch} {A : Option Addr} {n cap : Nat} (h : ChHas w (.slice A n cap) vt C) {k : Nat} (hk : k < C.sts.length) :
    ∃ (b o : Nat) (vi ve vx : Value), A = some ⟨b, o, none⟩ ∧ b < w.heap.size ∧ StC w b (o + k * 5) (C.sts.getD k noSt) vi ve vx ∧ StHas w vi ve vx (C.sts.getD k noSt) := by
  obtain ⟨⟨A', cap', hv, hc, hi⟩, _⟩ := h
  injection hv with e1 e2 e3
  subst e1
  obtain ⟨b, o, hA, hlt, vi, ve, vx, h0, h1⟩ := hi k _ (by simp [List.getD, List.getElem?_eq_getElem hk] : C.sts[k]? = some (C.sts.getD k noSt))
  exact ⟨b, o, vi, ve, vx, hA, hlt, h0, h1⟩
theorem few_sms {C : Ch} (h : fewB C = true) {k : Nat} (hk : k < C.sts.length) : (C.sts.getD k noSt).ini.length ≤ 1000 ∧ (C.sts.getD k noSt).ent.length ≤ 1000 ∧ (C.sts.getD k noSt).exi.length ≤ 1000 := by
  have := (few_parts h).2.2.1 k hk
  unfold fewStB at this
  simp only [Bool.and_eq_true, decide_eq_true_eq] at this
  have a := (fewActs_parts this.1.1).1
  have b := (fewActs_parts this.1.2).1
  omega
theorem few_smt {C : Ch} (h : fewB C = true) {k : Nat} (hk : k < C.trs.length) : (C.trs.getD k noTr).tgts.length ≤ 1000 ∧ (C.trs.getD k noTr).acts.length ≤ 1000 := by
  have := (few_parts h).2.2.2 k hk
  unfold fewTrB at this
  simp only [Bool.and_eq_true, decide_eq_true_eq] at this
  have a := (fewActs_parts this.1.1).1
  omega
end Go.Proofs.YtfmlicpholjjhaaGreatDoor
