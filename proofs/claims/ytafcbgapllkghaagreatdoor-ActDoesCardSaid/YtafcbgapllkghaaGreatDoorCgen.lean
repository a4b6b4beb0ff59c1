/- Plain functions on charts: whether they may be, what is amiss first, and where; children; what is in what; and what follows of it. No program in this text. -/
import Derived.Lib.Strings
import Derived.Lib.Hide
import Derived.Test.YtafcbgapllkghaaGreatDoorZgen
namespace Go.Proofs.YtafcbgapllkghaaGreatDoor
set_option linter.unusedVariables false

structure Ac where
  kind : Int
  n : Int
  m : Int
  expr : ByteArray
structure St where
  kind : Int
  par : Int
  ini : List Int
  ent : List Ac
  exi : List Ac
structure Tr where
  src : Int
  ev : Int
  guard : ByteArray
  tgts : List Int
  inner : Bool
  acts : List Ac
structure Ch where
  vars : Int
  sts : List St
  trs : List Tr
def noAc : Ac := ⟨0, 0, 0, ⟨#[]⟩⟩
def noSt : St := ⟨0, 0, [], [], []⟩
def noTr : Tr := ⟨0, 0, ⟨#[]⟩, [], false, []⟩

def fromB (n a b : Int) : Bool := decide (a ≤ n) && decide (n ≤ b)
def histB (k : Int) : Bool := decide (k = 5) || decide (k = 6)
def stAt (S : List St) (s : Int) : St := S.getD s.toNat noSt
def isSt (S : List St) (s : Int) : Bool := decide (0 ≤ s) && decide (s < (S.length : Int))
/-- the innermost state that s is in, or -1 -/
def cUp (S : List St) (s : Int) : Int := if isSt S s = true ∧ fromB (stAt S s).par 0 (s - 1) = true then (stAt S s).par else -1
/-- is b that one, or above it? -/
def inF (S : List St) : Nat → Int → Int → Bool
  | 0, _, _ => false
  | n + 1, p, b => if p < 0 then false else if p = b then true else inF S n (cUp S p) b
def cIn (S : List St) (a b : Int) : Bool := inF S (a.toNat + 1) (cUp S a) b
def allU (n : Nat) (f : Nat → Bool) : Bool := (List.range n).all f
/-- the first place with a fault -/
def badU (n : Nat) (f : Nat → Int) : Option Nat := (List.range n).find? fun i => decide (f i ≠ 0)

def kidB (S : List St) (s : Int) (k : Nat) : Bool := decide ((stAt S k).par = s) && !histB (stAt S k).kind
def kidsU (S : List St) (s : Int) (n : Nat) : List Int := ((List.range n).filter (kidB S s)).map fun k : Nat => (k : Int)
def kids (S : List St) (s : Int) : List Int := kidsU S s S.length

section
variable (T : ByteArray → Int → Int → Bool)
def actB (vars : Int) (a : Ac) : Bool :=
  if a.kind = 1 then fromB a.n 0 (vars - 1) && decide (a.m = 0) && T a.expr vars 1
  else if a.kind = 2 ∨ a.kind = 4 then fromB a.n 1 1000 && decide (a.m = 0) && decide (a.expr.size = 0)
  else if a.kind = 3 then fromB a.n 1 1000 && fromB a.m 0 1000 && T a.expr vars 1
  else if a.kind = 5 then decide (a.n = 0) && decide (a.m = 0) && T a.expr vars 1
  else false
def actsB (vars : Int) (l : List Ac) : Bool := decide (l.length ≤ 5) && allU l.length fun i => actB T vars (l.getD i noAc)
def kindB (S : List St) (s : Int) : Bool := if s = 0 then decide ((stAt S s).kind = 2) else fromB (stAt S s).kind 1 6
def parB (S : List St) (s : Int) : Bool := if s = 0 then decide ((stAt S s).par = -1) else decide ((stAt S s).par = s - 1) || cIn S (s - 1) (stAt S s).par
def kindInB (S : List St) (s : Int) : Bool :=
  if s = 0 then true
  else if (stAt S s).kind = 4 then decide ((stAt S (stAt S s).par).kind = 2)
  else if histB (stAt S s).kind = true ∧ (stAt S s).par = 0 then false
  else decide ((stAt S (stAt S s).par).kind = 2) || decide ((stAt S (stAt S s).par).kind = 3)
def needsB (S : List St) (s : Int) : Bool := decide ((stAt S s).kind = 2) || decide ((stAt S s).kind = 3)
def iniB (S : List St) (s : Int) : Bool :=
  if (stAt S s).kind ≠ 2 ∧ histB (stAt S s).kind = false then decide ((stAt S s).ini.length = 0)
  else if (stAt S s).ini.length ≠ 1 then false
  else if isSt S ((stAt S s).ini.getD 0 0) = false ∨ histB (stAt S ((stAt S s).ini.getD 0 0)).kind = true then false
  else if (stAt S s).kind = 5 then decide ((stAt S ((stAt S s).ini.getD 0 0)).par = (stAt S s).par)
  else if (stAt S s).kind = 6 then cIn S ((stAt S s).ini.getD 0 0) (stAt S s).par
  else cIn S ((stAt S s).ini.getD 0 0) s
def stActsB (S : List St) (vars s : Int) : Bool :=
  if histB (stAt S s).kind = true then decide ((stAt S s).ent.length = 0) && decide ((stAt S s).exi.length = 0)
  else actsB T vars (stAt S s).ent && actsB T vars (stAt S s).exi
/-- a state's first fault -/
def stF (S : List St) (vars s : Int) : Int :=
  if kindB S s = false then 10
  else if parB S s = false then 1
  else if kindInB S s = false then 10
  else if needsB S s = true ∧ (kids S s).length = 0 then 4
  else if iniB S s = false then 11
  else if stActsB T S vars s = false then 1
  else 0

def notFirst (S : List St) (s : Int) : Bool := decide (s ≠ 0) && isSt S s
def srcB (S : List St) (s : Int) : Bool := notFirst S s && fromB (stAt S s).kind 1 3
def evB (S : List St) (e : Int) : Bool := fromB e 0 1000 || decide (e = 1001) || decide (e = 1002) || fromB e 2000 (2000 + (S.length : Int) - 1)
def cCnt (S : List St) (s : Int) : Int := if histB (stAt S s).kind = true then (stAt S s).par else s
def apF (S : List St) : Nat → Int → Int → Bool
  | 0, _, _ => false
  | n + 1, p, b => if p < 0 then false else if cIn S b p = true then decide ((stAt S p).kind = 3) else apF S n (cUp S p) b
def apart (S : List St) (a b : Int) : Bool :=
  if a = b ∨ cIn S a b = true ∨ cIn S b a = true then false else apF S (a.toNat + 1) (cUp S a) b
def pairB (S : List St) (l : List Int) (i : Nat) : Bool := allU i fun k => apart S (cCnt S (l.getD i 0)) (cCnt S (l.getD k 0))
def tgtsB (S : List St) (l : List Int) : Bool :=
  decide (l.length ≤ 3) && allU l.length (fun i => notFirst S (l.getD i 0)) && allU l.length (pairB S l)
/-- a transition's first fault -/
def trF (S : List St) (vars : Int) (t : Tr) : Int :=
  if srcB S t.src = false then 10
  else if evB S t.ev = false then 1
  else if tgtsB S t.tgts = false then 11
  else if t.guard.size ≠ 0 ∧ T t.guard vars 2 = false then 8
  else if actsB T vars t.acts = false then 1
  else 0
def sizedB (C : Ch) : Bool := fromB C.vars 0 8 && fromB (C.sts.length : Int) 1 24 && decide (C.trs.length ≤ 40)
/-- what Check tells -/
inductive CA where
  | ok
  | large
  | spot (k : Nat) (c : Int)
def chk (C : Ch) : CA :=
  if sizedB C = false then .large
  else match badU C.sts.length (fun s => stF T C.sts C.vars (s : Int)) with
    | some s => .spot s (stF T C.sts C.vars (s : Int))
    | none => match badU C.trs.length (fun i => trF T C.sts C.vars (C.trs.getD i noTr)) with
      | some i => .spot (C.sts.length + i) (trF T C.sts C.vars (C.trs.getD i noTr))
      | none => .ok
end
def fewActsB (l : List Ac) : Bool := allU l.length (fun i => decide ((l.getD i noAc).expr.size ≤ 500)) && decide (l.length ≤ 20)
def fewStB (s : St) : Bool := fewActsB s.ent && fewActsB s.exi && decide (s.ini.length ≤ 20)
def fewTrB (t : Tr) : Bool := fewActsB t.acts && decide (t.tgts.length ≤ 20) && decide (t.guard.size ≤ 500)
def fewB (C : Ch) : Bool :=
  decide (C.sts.length ≤ 40) && decide (C.trs.length ≤ 60) && allU C.sts.length (fun i => fewStB (C.sts.getD i noSt)) && allU C.trs.length (fun i => fewTrB (C.trs.getD i noTr))

/-! ### lemmas -/
theorem allU_true {n : Nat} {f : Nat → Bool} (h : ∀ i, i < n → f i = true) : allU n f = true := by
  unfold allU; rw [List.all_eq_true]; exact fun i hi => h i (List.mem_range.1 hi)
theorem allU_false {n : Nat} {f : Nat → Bool} (i : Nat) (hi : i < n) (h : f i = false) : allU n f = false := by
  unfold allU; rw [List.all_eq_false]; exact ⟨i, List.mem_range.2 hi, by rw [h]; exact Bool.false_ne_true⟩
theorem of_allU {n : Nat} {f : Nat → Bool} (h : allU n f = true) (i : Nat) (hi : i < n) : f i = true := by
  unfold allU at h; rw [List.all_eq_true] at h; exact h i (List.mem_range.2 hi)
theorem badU_none {n : Nat} {f : Nat → Int} (h : ∀ i, i < n → f i = 0) : badU n f = none := by
  unfold badU; rw [List.find?_eq_none]; intro i hi; simp [h i (List.mem_range.1 hi)]
theorem badU_none_iff {n : Nat} {f : Nat → Int} : badU n f = none ↔ ∀ i, i < n → f i = 0 := by
  refine ⟨fun h i hi => ?_, badU_none⟩
  unfold badU at h; rw [List.find?_eq_none] at h
  have := h i (List.mem_range.2 hi)
  simpa using this
theorem badU_some {n : Nat} {f : Nat → Int} (i : Nat) (hi : i < n) (h : f i ≠ 0) (hb : ∀ j, j < i → f j = 0) : badU n f = some i := by
  unfold badU
  rw [List.find?_range_eq_some]
  exact ⟨by simpa using h, List.mem_range.2 hi, fun j hj => by simp [hb j hj]⟩
theorem kidsU_succ (S : List St) (s : Int) (n : Nat) : kidsU S s (n + 1) = kidsU S s n ++ if kidB S s n = true then [(n : Int)] else [] := by
  unfold kidsU
  rw [List.range_succ, List.filter_append, List.map_append]
  by_cases h : kidB S s n = true
  · simp [h]
  · simp [h]
theorem kidsU_len (S : List St) (s : Int) (n : Nat) : (kidsU S s n).length ≤ n := by
  unfold kidsU
  rw [List.length_map]
  have := List.length_filter_le (kidB S s) (List.range n)
  simpa using this

theorem fromB_true {n a b : Int} : fromB n a b = true ↔ a ≤ n ∧ n ≤ b := by simp [fromB]
theorem cUp_le (S : List St) (s : Int) : cUp S s < s ∨ cUp S s = -1 := by
  unfold cUp
  split
  · rename_i h; have := fromB_true.1 h.2; left; omega
  · exact .inr rfl
theorem cUp_ge (S : List St) (s : Int) : -1 ≤ cUp S s := by
  unfold cUp
  split
  · rename_i h; have := fromB_true.1 h.2; omega
  · omega
theorem cUp_lt (S : List St) (s : Int) : cUp S s < (S.length : Int) := by
  unfold cUp isSt
  split
  · rename_i h; have := fromB_true.1 h.2; have := h.1; simp at this; omega
  · omega
theorem cUp_pos {S : List St} {s : Int} (h : 0 ≤ cUp S s) : isSt S s = true ∧ cUp S s = (stAt S s).par ∧ cUp S s < s := by
  unfold cUp at h ⊢
  split at h
  · rename_i hc; rw [if_pos hc]; have := fromB_true.1 hc.2; exact ⟨hc.1, rfl, by omega⟩
  · omega
theorem cUp_step (S : List St) (p : Int) (hp : 0 ≤ p) : (cUp S p + 1).toNat < (p + 1).toNat := by
  rcases cUp_le S p with h | h <;> omega
theorem inF_fuel (S : List St) (b : Int) : ∀ (n m : Nat) (p : Int), (p + 1).toNat ≤ n → (p + 1).toNat ≤ m → inF S n p b = inF S m p b
  | 0, 0, _, _, _ => rfl
  | 0, m + 1, p, h1, _ => by rw [inF, inF, if_pos (by omega)]
  | n + 1, 0, p, _, h2 => by rw [inF, inF, if_pos (by omega)]
  | n + 1, m + 1, p, h1, h2 => by
    rw [inF, inF]
    by_cases hp : p < 0
    · rw [if_pos hp, if_pos hp]
    · have := cUp_step S p (by omega)
      rw [if_neg hp, if_neg hp, inF_fuel S b n m (cUp S p) (by omega) (by omega)]
theorem cIn_fuel (S : List St) (a b : Int) (n : Nat) (h : (cUp S a + 1).toNat ≤ n) : cIn S a b = inF S n (cUp S a) b := by
  unfold cIn
  refine inF_fuel S b _ _ _ ?_ h
  rcases cUp_le S a with h1 | h1 <;> omega
/-- one step up -/
theorem cIn_up (S : List St) (a b : Int) : cIn S a b = if cUp S a < 0 then false else if cUp S a = b then true else cIn S (cUp S a) b := by
  have e : cIn S a b = inF S (a.toNat + 1) (cUp S a) b := rfl
  rw [e, inF]
  by_cases h : cUp S a < 0
  · rw [if_pos h, if_pos h]
  · rw [if_neg h, if_neg h]
    by_cases h2 : cUp S a = b
    · rw [if_pos h2, if_pos h2]
    · rw [if_neg h2, if_neg h2, cIn_fuel S (cUp S a) b a.toNat]
      have := cUp_step S (cUp S a) (by omega)
      rcases cUp_le S a with h1 | h1 <;> omega
theorem cIn_iff (S : List St) (a b : Int) : cIn S a b = true ↔ 0 ≤ cUp S a ∧ (cUp S a = b ∨ cIn S (cUp S a) b = true) := by
  rw [cIn_up]
  by_cases h : cUp S a < 0
  · rw [if_pos h]; simp; omega
  · rw [if_neg h]
    by_cases h2 : cUp S a = b
    · rw [if_pos h2]; simp [h2]; omega
    · rw [if_neg h2]; simp [h2]; omega
theorem cIn_bounds {S : List St} : ∀ (n : Nat) (a b : Int), a.toNat ≤ n → cIn S a b = true → 0 ≤ b ∧ b < a ∧ isSt S a = true
  | n, a, b, hn, h => by
    obtain ⟨h1, h2⟩ := (cIn_iff S a b).1 h
    obtain ⟨p1, p2, p3⟩ := cUp_pos h1
    rcases h2 with h2 | h2
    · subst h2; exact ⟨h1, p3, p1⟩
    · cases n with
      | zero => omega
      | succ n =>
        obtain ⟨q1, q2, q3⟩ := cIn_bounds n (cUp S a) b (by omega) h2
        exact ⟨q1, by omega, p1⟩
theorem cIn_range {S : List St} {a b : Int} (h : cIn S a b = true) : 0 ≤ b ∧ b < a ∧ isSt S a = true := cIn_bounds a.toNat a b (Nat.le_refl _) h
theorem cIn_trans {S : List St} : ∀ (n : Nat) (a b c : Int), a.toNat ≤ n → cIn S a b = true → cIn S b c = true → cIn S a c = true
  | n, a, b, c, hn, h, k => by
    obtain ⟨h1, h2⟩ := (cIn_iff S a b).1 h
    obtain ⟨p1, p2, p3⟩ := cUp_pos h1
    refine (cIn_iff S a c).2 ⟨h1, ?_⟩
    rcases h2 with h2 | h2
    · subst h2; exact .inr k
    · cases n with
      | zero => omega
      | succ n => exact .inr (cIn_trans n (cUp S a) b c (by omega) h2 k)

/-! ### where a chart may be -/
theorem chk_ok {T : ByteArray → Int → Int → Bool} {C : Ch} (h : chk T C = .ok) :
    sizedB C = true ∧ (∀ s, s < C.sts.length → stF T C.sts C.vars (s : Int) = 0) ∧ (∀ i, i < C.trs.length → trF T C.sts C.vars (C.trs.getD i noTr) = 0) := by
  unfold chk at h
  split at h
  · cases h
  · rename_i h0
    split at h
    · cases h
    · rename_i h1
      split at h
      · cases h
      · rename_i h2
        exact ⟨by simpa using h0, badU_none_iff.1 h1, badU_none_iff.1 h2⟩
theorem chk_of {T : ByteArray → Int → Int → Bool} {C : Ch} (h0 : sizedB C = true) (h1 : ∀ s, s < C.sts.length → stF T C.sts C.vars (s : Int) = 0) (h2 : ∀ i, i < C.trs.length → trF T C.sts C.vars (C.trs.getD i noTr) = 0) : chk T C = .ok := by
  unfold chk
  rw [if_neg (by rw [h0]; simp), badU_none h1]
  simp only
  rw [badU_none h2]
/-- ChartLess, plainly -/
theorem chk_less {T : ByteArray → Int → Int → Bool} {C : Ch} (h : chk T C = .ok) (n : Nat) : chk T ⟨C.vars, C.sts, C.trs.take n⟩ = .ok := by
  obtain ⟨h0, h1, h2⟩ := chk_ok h
  refine chk_of ?_ h1 fun i hi => ?_
  · unfold sizedB at h0 ⊢
    simp only [Bool.and_eq_true, decide_eq_true_eq, List.length_take] at h0 ⊢
    exact ⟨h0.1, by have := h0.2; omega⟩
  · simp only [List.length_take] at hi
    have := h2 i (by omega)
    simp only at hi ⊢
    rw [show (C.trs.take n).getD i noTr = C.trs.getD i noTr by simp [List.getD, show i < n by omega]]
    exact this
theorem stF_par {T : ByteArray → Int → Int → Bool} {S : List St} {vars s : Int} (h : stF T S vars s = 0) : parB S s = true := by
  unfold stF at h
  split at h
  · omega
  · split at h
    · omega
    · rename_i h1; simpa using h1
/-- a state's Parent, where the chart may be -/
theorem par_of {T : ByteArray → Int → Int → Bool} {C : Ch} (h : chk T C = .ok) (s : Int) (h0 : 0 < s) (h1 : s < (C.sts.length : Int)) : 0 ≤ cUp C.sts s ∧ (cUp C.sts s = s - 1 ∨ cIn C.sts (s - 1) (cUp C.sts s) = true) := by
  have hp := stF_par ((chk_ok h).2.1 s.toNat (by omega))
  rw [show ((s.toNat : Nat) : Int) = s by omega] at hp
  unfold parB at hp
  rw [if_neg (by omega)] at hp
  simp only [Bool.or_eq_true, decide_eq_true_eq] at hp
  have hr : 0 ≤ (stAt C.sts s).par ∧ (stAt C.sts s).par ≤ s - 1 := by
    rcases hp with hp | hp
    · omega
    · have := cIn_range hp; omega
  have hu : cUp C.sts s = (stAt C.sts s).par := by
    unfold cUp
    rw [if_pos ⟨by unfold isSt; simp; omega, fromB_true.2 hr⟩]
  rw [hu]
  exact ⟨hr.1, hp⟩
theorem in_first {T : ByteArray → Int → Int → Bool} {C : Ch} (h : chk T C = .ok) : ∀ (n : Nat) (s : Int), s.toNat ≤ n → 0 < s → s < (C.sts.length : Int) → cIn C.sts s 0 = true
  | n, s, hn, h0, h1 => by
    obtain ⟨p0, p1⟩ := par_of h s h0 h1
    obtain ⟨_, _, p2⟩ := cUp_pos p0
    refine (cIn_iff _ _ _).2 ⟨p0, ?_⟩
    by_cases hz : cUp C.sts s = 0
    · exact .inl hz
    · cases n with
      | zero => omega
      | succ n => exact .inr (in_first h n (cUp C.sts s) (by omega) (by omega) (by omega))
/-- all states but the first one are in it -/
theorem in_first_iff {T : ByteArray → Int → Int → Bool} {C : Ch} (h : chk T C = .ok) (s : Int) (h0 : 0 ≤ s) (h1 : s < (C.sts.length : Int)) : cIn C.sts s 0 = decide (0 < s) := by
  by_cases hs : 0 < s
  · rw [in_first h s.toNat s (Nat.le_refl _) hs h1]; simp [hs]
  · have : cIn C.sts s 0 = false := by
      rw [Bool.eq_false_iff]; intro hc; have := cIn_range hc; omega
    rw [this]; simp; omega
theorem in_back {T : ByteArray → Int → Int → Bool} {C : Ch} (h : chk T C = .ok) (x s : Int) (hx : x < (C.sts.length : Int)) (hs : s + 1 < x) (hi : cIn C.sts x s = true) : cIn C.sts (x - 1) s = true := by
  have hr := cIn_range hi
  obtain ⟨p0, p1⟩ := par_of h x (by omega) hx
  obtain ⟨_, h2⟩ := (cIn_iff _ _ _).1 hi
  rcases p1 with p1 | p1
  · rw [← p1]
    rcases h2 with h2 | h2
    · omega
    · exact h2
  · rcases h2 with h2 | h2
    · rw [← h2]; exact p1
    · exact cIn_trans _ _ _ _ (Nat.le_refl _) p1 h2
/-- what is in a state stands right behind it, without others between -/
theorem in_between {T : ByteArray → Int → Int → Bool} {C : Ch} (h : chk T C = .ok) (s y : Int) (hy : s < y) : ∀ (n : Nat) (x : Int), (x - y).toNat ≤ n → y ≤ x → x < (C.sts.length : Int) → cIn C.sts x s = true → cIn C.sts y s = true
  | n, x, hn, hyx, hx, hi => by
    by_cases he : x = y
    · rw [← he]; exact hi
    · cases n with
      | zero => omega
      | succ n => exact in_between h s y hy n (x - 1) (by omega) (by omega) (by omega) (in_back h x s hx (by omega) hi)
end Go.Proofs.YtafcbgapllkghaaGreatDoor
/- How charts lie in memory: slices of numbers, actions, states and transitions; and that they lie so still where no old block has changed. No function is called in this text. -/
namespace Go.Proofs.YtafcbgapllkghaaGreatDoor
open Go.ChangeShapes Go.WideShapes Go.ChangeAt Go.RowKit
set_option linter.unusedVariables false

/-- a slice whose elements take n cells each -/
def RowsAt {α : Type} (n : Nat) (P : World → Nat → Nat → α → Prop) (w : World) (v : Value) (xs : List α) : Prop :=
  ∃ (A : Option Addr) (cap : Nat), v = .slice A xs.length cap ∧ xs.length ≤ cap ∧ ∀ (i : Nat) (x : α), xs[i]? = some x → ∃ b o : Nat, A = some ⟨b, o, none⟩ ∧ b < w.heap.size ∧ P w b (o + i * n) x
/-- what holds of an element holds still where no old block has changed -/
def Keeps {α : Type} (P : World → Nat → Nat → α → Prop) : Prop := ∀ (w w' : World) (b o : Nat) (x : α), Below w.heap.size w w' → b < w.heap.size → P w b o x → P w' b o x
theorem RowsAt.below {α : Type} {n : Nat} {P : World → Nat → Nat → α → Prop} (hP : Keeps P) {w w' : World} {v : Value} {xs : List α} (h : RowsAt n P w v xs) (hb : Below w.heap.size w w') : RowsAt n P w' v xs := by
  obtain ⟨A, cap, hv, hc, hi⟩ := h
  refine ⟨A, cap, hv, hc, fun i t ht => ?_⟩
  obtain ⟨b, o, hA, hlt, h0⟩ := hi i t ht
  exact ⟨b, o, hA, Nat.lt_of_lt_of_le hlt hb.size, hP w w' b _ t hb hlt h0⟩
theorem RowsAt.nil {α : Type} {n : Nat} {P : World → Nat → Nat → α → Prop} (w : World) : RowsAt n P w (.slice none 0 0) ([] : List α) := ⟨none, 0, rfl, Nat.le_refl _, fun i t h => by simp at h⟩
/-- the first k of them -/
theorem RowsAt.take {α : Type} {n : Nat} {P : World → Nat → Nat → α → Prop} {w : World} {A : Option Addr} {len cap : Nat} {xs : List α} (h : RowsAt n P w (.slice A len cap) xs) (k : Nat) (hk : k ≤ len) : RowsAt n P w (.slice A k cap) (xs.take k) := by
  obtain ⟨A', cap', hv, hc, hi⟩ := h
  injection hv with h1 h2 h3
  subst h1; subst h2; subst h3
  refine ⟨A, cap, by rw [List.length_take, Nat.min_eq_left hk], by rw [List.length_take]; omega, fun i t ht => ?_⟩
  rw [List.getElem?_take] at ht
  split at ht
  · exact hi i t ht
  · cases ht
def Short (n : Nat) : Prop := n ≤ 9223372036854775807
def cellIs (w : World) (b o : Nat) (v : Value) : Prop := w.cell? ⟨b, o, none⟩ = some v
theorem cellIs.below {w w' : World} {b o : Nat} {v : Value} (h : cellIs w b o v) (hb : Below w.heap.size w w') (hlt : b < w.heap.size) : cellIs w' b o v := (hb.cell (p := ⟨b, o, none⟩) hlt).trans h

def IntAt (w : World) (b o : Nat) (x : Int) : Prop := w.cell? ⟨b, o, none⟩ = some (.int .i64 x)
theorem IntAt.keeps : Keeps IntAt := fun w w' b o x hb hlt h => (hb.cell (p := ⟨b, o, none⟩) hlt).trans h
def ListAt (w : World) (v : Value) (xs : List Int) : Prop := RowsAt 1 IntAt w v xs
theorem ListAt.below {w w' : World} {v : Value} {xs : List Int} (h : ListAt w v xs) (hb : Below w.heap.size w w') : ListAt w' v xs := RowsAt.below IntAt.keeps h hb

def AcAt (w : World) (b o : Nat) (a : Ac) : Prop :=
  w.cell? ⟨b, o, none⟩ = some (.int .i64 a.kind) ∧ w.cell? ⟨b, o + 1, none⟩ = some (.int .i64 a.n) ∧ w.cell? ⟨b, o + 2, none⟩ = some (.int .i64 a.m) ∧ w.cell? ⟨b, o + 3, none⟩ = some (.string a.expr)
theorem AcAt.keeps : Keeps AcAt := fun w w' b o x hb hlt h =>
  ⟨(hb.cell (p := ⟨b, _, none⟩) hlt).trans h.1, (hb.cell (p := ⟨b, _, none⟩) hlt).trans h.2.1, (hb.cell (p := ⟨b, _, none⟩) hlt).trans h.2.2.1, (hb.cell (p := ⟨b, _, none⟩) hlt).trans h.2.2.2⟩
def ActsAt (w : World) (v : Value) (l : List Ac) : Prop := RowsAt 4 AcAt w v l
theorem ActsAt.below {w w' : World} {v : Value} {l : List Ac} (h : ActsAt w v l) (hb : Below w.heap.size w w') : ActsAt w' v l := RowsAt.below AcAt.keeps h hb

/-- the three slices of a state -/
def StHas (w : World) (vi ve vx : Value) (s : St) : Prop := ListAt w vi s.ini ∧ ActsAt w ve s.ent ∧ ActsAt w vx s.exi
theorem StHas.below {w w' : World} {vi ve vx : Value} {s : St} (h : StHas w vi ve vx s) (hb : Below w.heap.size w w') : StHas w' vi ve vx s := ⟨h.1.below hb, h.2.1.below hb, h.2.2.below hb⟩
theorem RowsAt.slice {α : Type} {n : Nat} {P : World → Nat → Nat → α → Prop} {w : World} {v : Value} {xs : List α} (h : RowsAt n P w v xs) : ∃ A cap, v = .slice A xs.length cap ∧ xs.length ≤ cap := let ⟨A, cap, h1, h2, _⟩ := h; ⟨A, cap, h1, h2⟩
theorem StHas.slices {w : World} {vi ve vx : Value} {s : St} (h : StHas w vi ve vx s) : ∃ (iA : Option Addr) (icap : Nat) (eA : Option Addr) (ecap : Nat) (xA : Option Addr) (xcap : Nat), vi = .slice iA s.ini.length icap ∧ ve = .slice eA s.ent.length ecap ∧ vx = .slice xA s.exi.length xcap := by
  obtain ⟨iA, icap, h1, _⟩ := RowsAt.slice h.1
  obtain ⟨eA, ecap, h2, _⟩ := RowsAt.slice h.2.1
  obtain ⟨xA, xcap, h3, _⟩ := RowsAt.slice h.2.2
  exact ⟨iA, icap, eA, ecap, xA, xcap, h1, h2, h3⟩
/-- the five cells of a state -/
def StC (w : World) (b o : Nat) (s : St) (vi ve vx : Value) : Prop :=
  w.cell? ⟨b, o, none⟩ = some (.int .i64 s.kind) ∧ w.cell? ⟨b, o + 1, none⟩ = some (.int .i64 s.par) ∧ w.cell? ⟨b, o + 2, none⟩ = some vi ∧ w.cell? ⟨b, o + 3, none⟩ = some ve ∧ w.cell? ⟨b, o + 4, none⟩ = some vx
theorem StC.below {w w' : World} {b o : Nat} {s : St} {vi ve vx : Value} (h : StC w b o s vi ve vx) (hb : Below w.heap.size w w') (hlt : b < w.heap.size) : StC w' b o s vi ve vx :=
  ⟨(hb.cell (p := ⟨b, _, none⟩) hlt).trans h.1, (hb.cell (p := ⟨b, _, none⟩) hlt).trans h.2.1, (hb.cell (p := ⟨b, _, none⟩) hlt).trans h.2.2.1, (hb.cell (p := ⟨b, _, none⟩) hlt).trans h.2.2.2.1, (hb.cell (p := ⟨b, _, none⟩) hlt).trans h.2.2.2.2⟩
def StAt (w : World) (b o : Nat) (s : St) : Prop := ∃ vi ve vx : Value, StC w b o s vi ve vx ∧ StHas w vi ve vx s
theorem StAt.keeps : Keeps StAt := fun w w' b o x hb hlt ⟨vi, ve, vx, h0, h5⟩ => ⟨vi, ve, vx, h0.below hb hlt, h5.below hb⟩
def StsAt (w : World) (v : Value) (l : List St) : Prop := RowsAt 5 StAt w v l
theorem StsAt.below {w w' : World} {v : Value} {l : List St} (h : StsAt w v l) (hb : Below w.heap.size w w') : StsAt w' v l := RowsAt.below StAt.keeps h hb

/-- the two slices of a transition -/
def TrHas (w : World) (vt va : Value) (t : Tr) : Prop := ListAt w vt t.tgts ∧ ActsAt w va t.acts
theorem TrHas.below {w w' : World} {vt va : Value} {t : Tr} (h : TrHas w vt va t) (hb : Below w.heap.size w w') : TrHas w' vt va t := ⟨h.1.below hb, h.2.below hb⟩
theorem TrHas.slices {w : World} {vt va : Value} {t : Tr} (h : TrHas w vt va t) : ∃ (tA : Option Addr) (tcap : Nat) (aA : Option Addr) (acap : Nat), vt = .slice tA t.tgts.length tcap ∧ va = .slice aA t.acts.length acap := by
  obtain ⟨tA, tcap, h1, _⟩ := RowsAt.slice h.1
  obtain ⟨aA, acap, h2, _⟩ := RowsAt.slice h.2
  exact ⟨tA, tcap, aA, acap, h1, h2⟩
/-- the six cells of a transition -/
def TrC (w : World) (b o : Nat) (t : Tr) (vt va : Value) : Prop :=
  w.cell? ⟨b, o, none⟩ = some (.int .i64 t.src) ∧ w.cell? ⟨b, o + 1, none⟩ = some (.int .i64 t.ev) ∧ w.cell? ⟨b, o + 2, none⟩ = some (.string t.guard) ∧ w.cell? ⟨b, o + 3, none⟩ = some vt ∧ w.cell? ⟨b, o + 4, none⟩ = some (.bool t.inner) ∧ w.cell? ⟨b, o + 5, none⟩ = some va
theorem TrC.below {w w' : World} {b o : Nat} {t : Tr} {vt va : Value} (h : TrC w b o t vt va) (hb : Below w.heap.size w w') (hlt : b < w.heap.size) : TrC w' b o t vt va :=
  ⟨(hb.cell (p := ⟨b, _, none⟩) hlt).trans h.1, (hb.cell (p := ⟨b, _, none⟩) hlt).trans h.2.1, (hb.cell (p := ⟨b, _, none⟩) hlt).trans h.2.2.1, (hb.cell (p := ⟨b, _, none⟩) hlt).trans h.2.2.2.1, (hb.cell (p := ⟨b, _, none⟩) hlt).trans h.2.2.2.2.1, (hb.cell (p := ⟨b, _, none⟩) hlt).trans h.2.2.2.2.2⟩
def TrAt (w : World) (b o : Nat) (t : Tr) : Prop := ∃ vt va : Value, TrC w b o t vt va ∧ TrHas w vt va t
theorem TrAt.keeps : Keeps TrAt := fun w w' b o x hb hlt ⟨vt, va, h0, h6⟩ => ⟨vt, va, h0.below hb hlt, h6.below hb⟩
def TrsAt (w : World) (v : Value) (l : List Tr) : Prop := RowsAt 6 TrAt w v l
theorem TrsAt.below {w w' : World} {v : Value} {l : List Tr} (h : TrsAt w v l) (hb : Below w.heap.size w w') : TrsAt w' v l := RowsAt.below TrAt.keeps h hb

/-- a chart's two slices -/
def ChHas (w : World) (vs vt : Value) (C : Ch) : Prop := StsAt w vs C.sts ∧ TrsAt w vt C.trs
theorem ChHas.below {w w' : World} {vs vt : Value} {C : Ch} (h : ChHas w vs vt C) (hb : Below w.heap.size w w') : ChHas w' vs vt C := ⟨h.1.below hb, h.2.below hb⟩
theorem stAt_nat {S : List St} {k : Nat} (h : k < S.length) : S[k]? = some (stAt S (k : Int)) := by
  unfold stAt
  simp [List.getD, List.getElem?_eq_getElem h]
theorem isSt_nat {S : List St} {s : Int} (h : isSt S s = true) : ∃ k : Nat, s = (k : Int) ∧ k < S.length := by
  unfold isSt at h
  simp only [Bool.and_eq_true, decide_eq_true_eq] at h
  exact ⟨s.toNat, by omega, by omega⟩
theorem isSt_of {S : List St} {k : Nat} (h : k < S.length) : isSt S (k : Int) = true := by
  unfold isSt
  simp only [Bool.and_eq_true, decide_eq_true_eq]
  omega
/-- the k-th state, where it lies -/
theorem ChHas.st {w : World} {vs vt : Value} {C : Ch} (h : ChHas w vs vt C) {k : Nat} (hk : k < C.sts.length) :
    ∃ (b o cap : Nat) (vi ve vx : Value), vs = .slice (some ⟨b, o, none⟩) C.sts.length cap ∧ C.sts.length ≤ cap ∧ b < w.heap.size ∧ StC w b (o + k * 5) (stAt C.sts (k : Int)) vi ve vx ∧ StHas w vi ve vx (stAt C.sts (k : Int)) := by
  obtain ⟨⟨A, cap, hv, hc, hi⟩, _⟩ := h
  obtain ⟨b, o, hA, hlt, vi, ve, vx, h0, h1⟩ := hi k _ (stAt_nat hk)
  exact ⟨b, o, cap, vi, ve, vx, by rw [hv, hA], hc, hlt, h0, h1⟩
/-- another state of the same slice -/
theorem ChHas.st' {w : World} {vt : Value} {C : Ch} {b o n cap : Nat} (h : ChHas w (.slice (some ⟨b, o, none⟩) n cap) vt C) {k : Nat} (hk : k < C.sts.length) :
    ∃ (vi ve vx : Value), StC w b (o + k * 5) (stAt C.sts (k : Int)) vi ve vx ∧ StHas w vi ve vx (stAt C.sts (k : Int)) := by
  obtain ⟨b', o', cap', vi, ve, vx, hv, _, _, h0, h1⟩ := h.st hk
  injection hv with e1 e2 e3
  injection e1 with e1
  injection e1 with e4 e5
  subst e4; subst e5
  exact ⟨vi, ve, vx, h0, h1⟩
theorem below_box (w : World) (o : Obj) : Below w.heap.size w (w.alloc o) := (Below.refl _ _).alloc (Nat.le_refl _) o
end Go.Proofs.YtafcbgapllkghaaGreatDoor
