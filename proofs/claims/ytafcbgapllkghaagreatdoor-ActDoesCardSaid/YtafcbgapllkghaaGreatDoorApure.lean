/- Plain functions on actions: what each does, what they come to one after the other, and in two parts. No program in this text. -/
import Derived.Test.YtafcbgapllkghaaGreatDoorCgen
import Derived.Test.YtafcbgapllkghaaGreatDoorPparse
import Derived.Test.YtafcbgapllkghaaGreatDoorEtype
namespace Go.Proofs.YtafcbgapllkghaaGreatDoor
open Go.RowKit
set_option linter.unusedVariables false

/-- what goes out -/
structure Ou where
  kind : Int
  ev : Int
  dl : Int
  to : Int
/-- what actions have come to: the variables, what goes out, what comes inside -/
structure Ds where
  env : List Int
  out : List Ou
  ins : List Int
/-- what an action's text is worth -/
def valOfA (a : Ans) (env : List Int) : Vl :=
  match a with
  | .toks o => ans ⟨false, env, 0⟩ o
  | .form _ => .bad 2
  | .large => .bad 3
def valA (e : ByteArray) (env : List Int) : Vl := valOfA (parseAns e.data.toList) env
/-- an action whose text is worth a number -/
def doK (a : Ac) (n : Int) (d : Ds) : Option Ds :=
  if a.kind = 1 then (if 0 ≤ a.n ∧ a.n < (d.env.length : Int) then some ⟨d.env.set a.n.toNat n, d.out, d.ins⟩ else none)
  else if a.kind = 3 then some ⟨d.env, d.out ++ [⟨3, a.n, a.m, n⟩], d.ins⟩
  else some ⟨d.env, d.out ++ [⟨5, 0, 0, n⟩], d.ins⟩
def doV (a : Ac) (d : Ds) : Vl → Option Ds
  | .ok k n => if k = 1 then doK a n d else none
  | .bad _ => none
/-- an action: none where there is a mishap -/
def doA (a : Ac) (d : Ds) : Option Ds :=
  if a.kind = 2 then some ⟨d.env, d.out, d.ins ++ [a.n]⟩
  else if a.kind = 4 then some ⟨d.env, d.out ++ [⟨4, 0, 0, a.n⟩], d.ins⟩
  else if a.kind = 1 ∨ a.kind = 3 ∨ a.kind = 5 then doV a d (valA a.expr d.env)
  else some d
/-- a mishap -/
def Ds.amiss (d : Ds) : Ds := ⟨d.env, d.out, d.ins ++ [1001]⟩
def doL : List Ac → Ds → Ds
  | [], d => d
  | a :: l, d => match doA a d with
    | some d' => doL l d'
    | none => d.amiss
theorem doL_some {a : Ac} {l : List Ac} {d d' : Ds} (h : doA a d = some d') : doL (a :: l) d = doL l d' := by rw [doL, h]
theorem doL_none {a : Ac} {l : List Ac} {d : Ds} (h : doA a d = none) : doL (a :: l) d = d.amiss := by rw [doL, h]
/-- how far d' may be from d behind one action -/
structure Near (d d' : Ds) : Prop where
  env : d'.env.length = d.env.length
  out : d'.out.length ≤ d.out.length + 1
  ins : d'.ins.length ≤ d.ins.length + 1
theorem doK_near {a : Ac} {n : Int} {d d' : Ds} (h : doK a n d = some d') : Near d d' := by
  unfold doK at h
  split at h
  · split at h
    · injection h with h; subst h; exact ⟨by simp, by simp, by simp⟩
    · cases h
  · split at h
    · injection h with h; subst h; exact ⟨rfl, by simp, by simp⟩
    · injection h with h; subst h; exact ⟨rfl, by simp, by simp⟩
theorem doV_near {a : Ac} {d d' : Ds} {v : Vl} (h : doV a d v = some d') : Near d d' := by
  cases v with
  | bad c => cases h
  | ok k n =>
    unfold doV at h
    simp only at h
    split at h
    · exact doK_near h
    · cases h
theorem doA_near {a : Ac} {d d' : Ds} (h : doA a d = some d') : Near d d' := by
  unfold doA at h
  split at h
  · injection h with h; subst h; exact ⟨rfl, by simp, by simp⟩
  · split at h
    · injection h with h; subst h; exact ⟨rfl, by simp, by simp⟩
    · split at h
      · exact doV_near h
      · injection h with h; subst h; exact ⟨rfl, by simp, by simp⟩
theorem doL_env : ∀ (l : List Ac) (d : Ds), (doL l d).env.length = d.env.length
  | [], d => rfl
  | a :: l, d => by
    cases h : doA a d with
    | none => rw [doL_none h]; rfl
    | some d' => rw [doL_some h, doL_env l d', (doA_near h).env]
theorem doL_out : ∀ (l : List Ac) (d : Ds), (doL l d).out.length ≤ d.out.length + l.length
  | [], d => by simp [doL]
  | a :: l, d => by
    cases h : doA a d with
    | none => rw [doL_none h]; simp [Ds.amiss]
    | some d' =>
      have := doL_out l d'
      have := (doA_near h).out
      rw [doL_some h, List.length_cons]
      omega
theorem doL_ins : ∀ (l : List Ac) (d : Ds), (doL l d).ins.length ≤ d.ins.length + l.length + 1
  | [], d => by simp [doL]
  | a :: l, d => by
    cases h : doA a d with
    | none => rw [doL_none h]; simp [Ds.amiss]
    | some d' =>
      have := doL_ins l d'
      have := (doA_near h).ins
      rw [doL_some h, List.length_cons]
      omega
/-- what went out and came inside ahead of it stands ahead of what an action adds -/
def Ds.ahead (o : List Ou) (i : List Int) (d : Ds) : Ds := ⟨d.env, o ++ d.out, i ++ d.ins⟩
theorem doK_ahead (o : List Ou) (i : List Int) (a : Ac) (n : Int) (d : Ds) : doK a n (d.ahead o i) = (doK a n d).map (Ds.ahead o i) := by
  unfold doK Ds.ahead
  simp only
  split
  · split <;> rfl
  · split <;> simp
theorem doV_ahead (o : List Ou) (i : List Int) (a : Ac) (d : Ds) (v : Vl) : doV a (d.ahead o i) v = (doV a d v).map (Ds.ahead o i) := by
  cases v with
  | bad c => rfl
  | ok k n =>
    unfold doV
    simp only
    split
    · exact doK_ahead o i a n d
    · rfl
theorem doA_ahead (o : List Ou) (i : List Int) (a : Ac) (d : Ds) : doA a (d.ahead o i) = (doA a d).map (Ds.ahead o i) := by
  have hv : doV a (d.ahead o i) (valA a.expr (d.ahead o i).env) = (doV a d (valA a.expr d.env)).map (Ds.ahead o i) := doV_ahead o i a d _
  unfold doA
  rw [hv]
  split
  · simp [Ds.ahead]
  · split
    · simp [Ds.ahead]
    · split <;> rfl
theorem doL_ahead (o : List Ou) (i : List Int) : ∀ (l : List Ac) (d : Ds), doL l (d.ahead o i) = (doL l d).ahead o i
  | [], d => rfl
  | a :: l, d => by
    have h := doA_ahead o i a d
    cases hd : doA a d with
    | none =>
      rw [hd] at h
      rw [doL_none h, doL_none hd]
      simp [Ds.ahead, Ds.amiss]
    | some d' =>
      rw [hd] at h
      rw [doL_some h, doL_some hd]
      exact doL_ahead o i l d'
/-- without a mishap among the first, the others follow -/
theorem doL_append : ∀ (l m : List Ac) (d : Ds), 1001 ∉ (doL l d).ins → doL (l ++ m) d = doL m (doL l d)
  | [], m, d, _ => rfl
  | a :: l, m, d, h => by
    cases hd : doA a d with
    | none =>
      rw [doL_none hd] at h
      exact absurd (by simp [Ds.amiss]) h
    | some d' =>
      rw [doL_some hd] at h ⊢
      rw [List.cons_append, doL_some hd]
      exact doL_append l m d' h
/-- actions in two parts -/
theorem doL_parts (l : List Ac) (n : Nat) (env : List Int) (h : 1001 ∉ (doL (l.take n) ⟨env, [], []⟩).ins) :
    doL l ⟨env, [], []⟩ = (doL (l.drop n) ⟨(doL (l.take n) ⟨env, [], []⟩).env, [], []⟩).ahead (doL (l.take n) ⟨env, [], []⟩).out (doL (l.take n) ⟨env, [], []⟩).ins := by
  have h1 := doL_append (l.take n) (l.drop n) ⟨env, [], []⟩ h
  rw [List.take_append_drop] at h1
  rw [h1, ← doL_ahead]
  simp [Ds.ahead]
/-- numbers of 64 bits stay such -/
def Ds.Fit (d : Ds) : Prop := ∀ x ∈ d.env, F64 x
theorem doK_fit {a : Ac} {n : Int} {d d' : Ds} (hn : F64 n) (hd : d.Fit) (h : doK a n d = some d') : d'.Fit := by
  unfold doK at h
  split at h
  · split at h
    · injection h with h
      subst h
      intro x hx
      rcases List.mem_or_eq_of_mem_set hx with h | h
      · exact hd x h
      · exact h ▸ hn
    · cases h
  · split at h
    · injection h with h; subst h; exact hd
    · injection h with h; subst h; exact hd
end Go.Proofs.YtafcbgapllkghaaGreatDoor
