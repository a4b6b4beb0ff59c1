/- The walk of the law ExprBoth: true for any two texts and any variables. -/
import Derived.Test.YtoiflidlnajbdaaDoorEup
import Derived.Test.YtoiflidlnajbdaaDoorErel
import Derived.Test.YtoiflidlnajbdaaDoorEbans
import Derived.Laws.StructEq
namespace Go.Proofs.YtoiflidlnajbdaaDoor
open Go.ChangeShapes Go.WideShapes Go.ChangeAt Go.RowKit
set_option linter.unusedVariables false

theorem fieldsB : Tryd.prog.underlying 34 = some (.struct (Tryd.prog.fieldsOf 34)) := by kernel_rfl
theorem heldB : Tryd.prog.stoodInHeld 34 = false := by kernel_rfl
theorem eqv_sameB (a b : Int) (w : World) : (binOp .eql 34 (.agg #[.int .i64 a, .int .i64 b]) (.agg #[.int .i64 a, .int .i64 b])).run Tryd.prog w = .ok (.bool true) w := by
  rw [run_eql_struct, run_equalIn_agg _ _ _ _ _ fieldsB heldB]
  simp [go_sem]
/-- what a text is worth: a value, or none -/
def worthOf (s : List UInt8) (env : List Int) : Option (Int × Int) :=
  match parseAns s with
  | .toks o => match ans ⟨false, env, 0⟩ o with
    | .ok k n => some (k, n)
    | .bad _ => none
  | _ => none
/-- an error that isn't nil -/
def IsErr (er : Value) : Prop := ∃ p, er = .iface 40 p ∨ er = .iface 59 p
def OW (r : Option (Int × Int)) (w : World) (e : Ending) (w' : World) : Prop :=
  Below w.heap.size w w' ∧ match r with
    | some (k, n) => e = .returned (.tuple #[.agg #[.int .i64 k, .int .i64 n], .nilIface])
    | none => ∃ er, e = .returned (.tuple #[.agg #[.int .i64 0, .int .i64 0], er]) ∧ IsErr er
theorem of_worth (s : ByteArray) (ve : Value) (env : List Int) (w : World) (hL : Laid w) (hs : s.size ≤ 1000000) (hE : NumsAt w ve env) (hel : env.length ≤ 1000) (hef : ∀ x ∈ env, F64 x) : Calls Tryd.prog 13 #[.string s, ve] w (OW (worthOf s.data.toList env) w) := by
  refine (of_any s ve env w hL hs hE hel hef).mono fun e w' h => ?_
  unfold worthOf
  cases hp : parseAns s.data.toList with
  | toks o =>
    rw [hp] at h
    have h' : VPost (ans ⟨false, env, 0⟩ o) w e w' := h
    simp only
    cases ha : ans ⟨false, env, 0⟩ o with
    | ok k n => rw [ha] at h'; exact h'
    | bad c => rw [ha] at h'; exact ⟨h'.1, _, h'.2, _, .inl rfl⟩
  | form k =>
    rw [hp] at h
    obtain ⟨hb, g, he, _, _⟩ := h
    exact ⟨hb, _, he, _, .inr rfl⟩
  | large =>
    rw [hp] at h
    exact ⟨h.1, _, h.2, _, .inl rfl⟩
theorem of_weak (s : ByteArray) (ve : Value) (env : List Int) (w : World) (hL : Laid w) (hs : s.size ≤ 1000000) (hE : NumsAt w ve env) (hel : env.length ≤ 1000) (hef : ∀ x ∈ env, F64 x) : Calls Tryd.prog 13 #[.string s, ve] w (fun e w' => Below w.heap.size w w' ∧ ∃ k n er, e = .returned (.tuple #[.agg #[.int .i64 k, .int .i64 n], er])) := by
  refine (of_worth s ve env w hL hs hE hel hef).mono fun e w' h => ⟨h.1, ?_⟩
  have h2 := h.2
  cases hr : worthOf s.data.toList env with
  | none => rw [hr] at h2; obtain ⟨er, he, _⟩ := h2; exact ⟨0, 0, er, he⟩
  | some x => obtain ⟨k, n⟩ := x; rw [hr] at h2; exact ⟨k, n, _, h2⟩
theorem parse_weak (s : ByteArray) (w : World) (hL : Laid w) (hs : s.size ≤ 1000000) : Calls Tryd.prog 14 #[.string s] w (fun e w' => Below w.heap.size w w' ∧ ∃ v er, e = .returned (.tuple #[v, er])) := by
  refine (parse_any s w hL hs).mono fun e w' h => ⟨h.1, ?_⟩
  have h2 := h.2
  cases hp : parseAns s.data.toList with
  | toks o => rw [hp] at h2; obtain ⟨v, he, _⟩ := h2; exact ⟨_, _, he⟩
  | form k => rw [hp] at h2; obtain ⟨g, he, _⟩ := h2; exact ⟨_, _, he⟩
  | large => rw [hp] at h2; exact ⟨_, _, h2⟩
theorem parse_good (s : ByteArray) (o : List Tk) (w : World) (hL : Laid w) (hs : s.size ≤ 1000000) (hp : parseAns s.data.toList = .toks o) : Calls Tryd.prog 14 #[.string s] w (fun e w' => Below w.heap.size w w' ∧ ∃ A cap, e = .returned (.tuple #[.slice A o.length cap, .nilIface])) := by
  refine (parse_any s w hL hs).mono fun e w' h => ⟨h.1, ?_⟩
  have h2 := h.2
  rw [hp] at h2
  obtain ⟨v, he, hown⟩ := h2
  obtain ⟨A, cap, rfl⟩ := own_slice hown
  exact ⟨A, cap, he⟩
theorem both_bytes (s : UInt8) (a b : ByteArray) : (⟨#[40]⟩ ++ a ++ ⟨#[41, s, 40]⟩ ++ b ++ ⟨#[41]⟩ : ByteArray).data.toList = bothL s a.data.toList b.data.toList := by simp [bothL]
theorem worth_some {s : List UInt8} {env : List Int} {k n : Int} (h : worthOf s env = some (k, n)) : ∃ o, parseAns s = .toks o ∧ ans ⟨false, env, 0⟩ o = .ok k n ∧ mayP o = true := by
  unfold worthOf at h
  cases hp : parseAns s with
  | toks o =>
    rw [hp] at h
    simp only at h
    cases ha : ans ⟨false, env, 0⟩ o with
    | ok k' n' =>
      rw [ha] at h
      simp only [Option.some.injEq, Prod.mk.injEq] at h
      obtain ⟨rfl, rfl⟩ := h
      refine ⟨o, rfl, ha, ?_⟩
      cases hm : mayP o with
      | true => rfl
      | false => rw [ans_not _ hm] at ha; cases ha
    | bad c => rw [ha] at h; cases h
  | form k' => rw [hp] at h; cases h
  | large => rw [hp] at h; cases h
theorem worth_both (s : UInt8) (kd : Nat) {a b : List UInt8} {env : List Int} {p q : List Tk} {x y : Int} (hs : (s = 43 ∧ kd = 3) ∨ (s = 60 ∧ kd = 8)) (ha : a.length ≤ 90) (hb : b.length ≤ 90) (pa : parseAns a = .toks p) (pb : parseAns b = .toks q) (ap : ans ⟨false, env, 0⟩ p = .ok 1 x) (aq : ans ⟨false, env, 0⟩ q = .ok 1 y) (mp : mayP p = true) (mq : mayP q = true) (hl : p.length + q.length ≤ 99) :
    worthOf (bothL s a b) env = if kd = 3 then some (1, wrap64 (x + y)) else some (2, truN (decide (x < y))) := by
  have h1 := parse_both s kd a b p q hs ha hb pa pb hl
  have h2 := ans_both ⟨false, env, 0⟩ p q ((kd : Int), 0, 0) _ _ mp mq ap aq hl (by rcases hs with ⟨_, rfl⟩ | ⟨_, rfl⟩ <;> decide)
  unfold worthOf
  rw [h1]
  simp only
  rw [h2]
  rcases hs with ⟨_, rfl⟩ | ⟨_, rfl⟩
  · rfl
  · rfl
set_option maxHeartbeats 4000000 in
set_option maxRecDepth 100000 in
theorem law4_far (a b : ByteArray) (eA : Option Addr) (len ecap : Nat) (w : World) (hL : Laid w) (ha : a.size ≤ 9223372036854775807) (hb : b.size ≤ 9223372036854775807) (hs2 : len ≤ 9223372036854775807) (h : 90 < a.size ∨ (a.size ≤ 90 ∧ 90 < b.size) ∨ (a.size ≤ 90 ∧ b.size ≤ 90 ∧ 100 < len)) :
    Calls Tryd.prog 6 #[.string a, .string b, .slice eA len ecap] w fun e w' => e = .returned (.bool true) ∧ Below w.heap.size w w' := by
  have h1 : decide ((90 : Int) < (a.size : Int)) = decide (90 < a.size) := by simp; omega
  have h2 : decide ((90 : Int) < (b.size : Int)) = decide (90 < b.size) := by simp; omega
  have h3 : decide ((100 : Int) < (len : Int)) = decide (100 < len) := by simp; omega
  rcases h with h | ⟨h, h'⟩ | ⟨h, h', h''⟩
  · have d1 : decide (90 < a.size) = true := by simpa using h
    rw [d1] at h1
    go_enter Tryd.func6, Tryd.ntmps6
    go_wp2_with fail
    refine (up_any _ hL).mono ?_
    rintro e w1 ⟨rfl, hb1⟩
    have HB1 := Lib.hid hb1
    clear hb1
    go_wp2
    go_ret
    exact ⟨rfl, HB1.out⟩
  · have d1 : decide (90 < a.size) = false := by simpa using h
    have d2 : decide (90 < b.size) = true := by simpa using h'
    rw [d1] at h1
    rw [d2] at h2
    go_enter Tryd.func6, Tryd.ntmps6
    go_wp2_with fail
    refine (up_any _ hL).mono ?_
    rintro e w1 ⟨rfl, hb1⟩
    have HB1 := Lib.hid hb1
    clear hb1
    go_wp2
    go_ret
    exact ⟨rfl, HB1.out⟩
  · have d1 : decide (90 < a.size) = false := by simpa using h
    have d2 : decide (90 < b.size) = false := by simpa using h'
    have d3 : decide (100 < len) = true := by simpa using h''
    rw [d1] at h1
    rw [d2] at h2
    rw [d3] at h3
    go_enter Tryd.func6, Tryd.ntmps6
    go_wp2_with fail
    refine (up_any _ hL).mono ?_
    rintro e w1 ⟨rfl, hb1⟩
    have HB1 := Lib.hid hb1
    clear hb1
    go_wp2
    go_ret
    exact ⟨rfl, HB1.out⟩
end Go.Proofs.YtoiflidlnajbdaaDoor
