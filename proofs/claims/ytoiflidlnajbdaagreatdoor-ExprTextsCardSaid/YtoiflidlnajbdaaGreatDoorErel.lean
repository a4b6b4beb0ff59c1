/- How types and values go together, plainly; what mishaps there are. -/
import Derived.Test.YtoiflidlnajbdaaGreatDoorEof
namespace Go.Proofs.YtoiflidlnajbdaaGreatDoor
open Go.RowKit
set_option linter.unusedVariables false

theorem ans_cases (m : Md) (ts : List Tk) (hn : ∀ t ∈ ts, t.2.1 ≤ 9223372036854775807) (hef : ∀ x ∈ m.env, F64 x) : (∃ k n, ans m ts = .ok k n ∧ Good (.ok k n)) ∨ ∃ c : Nat, ans m ts = .bad (c : Int) ∧ 1 ≤ c ∧ c ≤ 13 := by
  cases hm : mayP ts with
  | true =>
    obtain ⟨hl, hV, htop⟩ := ans_may m hm
    have hg := vs_good m hn hef ts.length (Nat.le_refl _) hV
    rw [htop] at hg
    have hg := hg _ (List.mem_singleton.2 rfl)
    cases ha : ans m ts with
    | ok k n => rw [ha] at hg; exact .inl ⟨k, n, rfl, hg⟩
    | bad c =>
      rw [ha] at hg
      right
      rcases hg with rfl | rfl | rfl
      · exact ⟨4, rfl, by omega, by omega⟩
      · exact ⟨8, rfl, by omega, by omega⟩
      · exact ⟨9, rfl, by omega, by omega⟩
  | false => exact .inr ⟨2, ans_not m hm, by omega, by omega⟩
/-- a type beside a value -/
def TyVal : Vl → Vl → Prop
  | .ok k _, .ok k' _ => k = k'
  | .ok _ _, .bad c => c = 9
  | .bad _, .bad _ => True
  | .bad _, .ok _ _ => False
def AllTV : List Vl → List Vl → Prop
  | [], [] => True
  | t :: T, e :: E => TyVal t e ∧ AllTV T E
  | _, _ => False
theorem tv_un {t : Tk} {x y : Vl} (ht : tak t = 1) (hx : Good x) (h : TyVal x y) : TyVal (unV t x) (unV t y) := by
  cases x with
  | bad c =>
    cases y with
    | bad d => exact trivial
    | ok k n => exact h.elim
  | ok k n =>
    obtain ⟨s1, s2⟩ := un_step (n := n) ht (good_kind hx)
    cases y with
    | bad d =>
      have h9 : d = 9 := h
      subst h9
      cases htk : tks (rul t.1).2.1 [k] with
      | true => obtain ⟨n', h1⟩ := s1 htk; rw [h1]; exact rfl
      | false => rw [s2 htk]; exact trivial
    | ok k' n' =>
      have hk : k = k' := h
      subst hk
      obtain ⟨r1, r2⟩ := un_step (n := n') ht (good_kind hx)
      cases htk : tks (rul t.1).2.1 [k] with
      | true => obtain ⟨m1, h1⟩ := s1 htk; obtain ⟨m2, h2⟩ := r1 htk; rw [h1, h2]; exact rfl
      | false => rw [s2 htk, r2 htk]; exact trivial
theorem tv_nine (u : Vl) : TyVal u (.bad 9) := by
  cases u with
  | ok k n => exact rfl
  | bad c => exact trivial
theorem tv_bad {c : Int} {y : Vl} (h : TyVal (.bad c) y) : ∃ d, y = .bad d := by
  cases y with
  | bad d => exact ⟨d, rfl⟩
  | ok k n => exact h.elim
theorem tv_bin {t : Tk} {a b a' b' : Vl} (ht : tak t = 2) (hga : Good a) (hgb : Good b) (ha : TyVal a a') (hb : TyVal b b') : TyVal (binV true t a b) (binV false t a' b') := by
  cases a with
  | bad c =>
    obtain ⟨d, rfl⟩ := tv_bad ha
    exact trivial
  | ok ak an =>
    cases b with
    | bad c =>
      obtain ⟨d, rfl⟩ := tv_bad hb
      cases a' with
      | bad d' => exact trivial
      | ok k' n' => exact trivial
    | ok bk bn =>
      cases a' with
      | bad d =>
        have h9 : d = 9 := ha
        subst h9
        exact tv_nine _
      | ok ak' an' =>
        cases b' with
        | bad d =>
          have h9 : d = 9 := hb
          subst h9
          exact tv_nine _
        | ok bk' bn' =>
          have e1 : ak = ak' := ha
          have e2 : bk = bk' := hb
          subst e1; subst e2
          obtain ⟨s1, s2⟩ := bin_step (ty := true) (an := an) (bn := bn) ht (good_kind hga) (good_kind hgb)
          obtain ⟨r1, r2⟩ := bin_step (ty := false) (an := an') (bn := bn') ht (good_kind hga) (good_kind hgb)
          cases htk : tks (rul t.1).2.1 [ak, bk] with
          | true =>
            rcases s1 htk with ⟨n1, h1⟩ | ⟨h1, _⟩
            · rw [h1]
              rcases r1 htk with ⟨n2, h2⟩ | ⟨_, h2⟩
              · rw [h2]; exact rfl
              · rw [h2]; exact rfl
            · cases h1
          | false => rw [s2 htk, r2 htk]; exact trivial
theorem tv_leaf {env : List Int} {t : Tk} (ht : tak t = 0) : TyVal (leafV ⟨true, [], (env.length : Int)⟩ t) (leafV ⟨false, env, 0⟩ t) := by
  by_cases hv : t.1 = 2 ∧ (env.length : Int) ≤ t.2.1
  · rw [leaf_none (m := ⟨true, [], (env.length : Int)⟩) hv.1 hv.2, leaf_none (m := ⟨false, env, 0⟩) hv.1 hv.2]; exact trivial
  · obtain ⟨n1, h1⟩ := leaf_some (m := ⟨true, [], (env.length : Int)⟩) ht hv
    obtain ⟨n2, h2⟩ := leaf_some (m := ⟨false, env, 0⟩) ht hv
    rw [h1, h2]; exact rfl
theorem tv_step {env : List Int} {t : Tk} {T E : List Vl} (h0 : 0 ≤ tak t) (hn : tak t ≤ T.length) (hg : AllGood T) (h : AllTV T E) : AllTV (vstep ⟨true, [], (env.length : Int)⟩ t T) (vstep ⟨false, env, 0⟩ t E) := by
  rcases tak_cases t with c | c | c | c
  · omega
  · rw [vstep0 _ c, vstep0 _ c]; exact ⟨tv_leaf c, h⟩
  · rcases T with _ | ⟨x, T⟩
    · rw [c] at hn; simp at hn
    · rcases E with _ | ⟨y, E⟩
      · exact h.elim
      · rw [vstep1 _ _ c, vstep1 _ _ c]; exact ⟨tv_un c (hg x (by simp)) h.1, h.2⟩
  · rcases T with _ | ⟨x, _ | ⟨x2, T⟩⟩
    · rw [c] at hn; simp at hn
    · rw [c] at hn; simp at hn
    · rcases E with _ | ⟨y, _ | ⟨y2, E⟩⟩
      · exact h.elim
      · exact h.2.elim
      · rw [vstep2 _ _ _ c, vstep2 _ _ _ c]; exact ⟨tv_bin c (hg x2 (by simp)) (hg x (by simp)) h.2.1 h.1, h.2.2⟩
theorem tv_run {env : List Int} {ts : List Tk} (hn : ∀ t ∈ ts, t.2.1 ≤ 9223372036854775807) : ∀ i, i ≤ ts.length → Valid ts i → AllTV (vs ⟨true, [], (env.length : Int)⟩ ts i) (vs ⟨false, env, 0⟩ ts i)
  | 0, _, _ => trivial
  | i + 1, hi, hv => by
    rw [vs_succ _ (by omega), vs_succ _ (by omega)]
    refine tv_step (hv i (by omega)).1 ?_ ?_ (tv_run hn i (by omega) (hv.mono (by omega)))
    · rw [vs_len _ ts i (by omega) (hv.mono (by omega))]; exact (hv i (by omega)).2
    · exact vs_good _ hn (fun x hx => by cases hx) i (by omega) (hv.mono (by omega))
theorem tv_ans {env : List Int} {ts : List Tk} (hn : ∀ t ∈ ts, t.2.1 ≤ 9223372036854775807) : TyVal (ans ⟨true, [], (env.length : Int)⟩ ts) (ans ⟨false, env, 0⟩ ts) := by
  cases hm : mayP ts with
  | false => rw [ans_not _ hm, ans_not _ hm]; exact trivial
  | true =>
    obtain ⟨_, hV, t1⟩ := ans_may ⟨true, [], (env.length : Int)⟩ hm
    obtain ⟨_, _, t2⟩ := ans_may ⟨false, env, 0⟩ hm
    have h := tv_run (env := env) hn ts.length (Nat.le_refl _) hV
    rw [t1, t2] at h
    exact h.1
end Go.Proofs.YtoiflidlnajbdaaGreatDoor
