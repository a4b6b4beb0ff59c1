/- The contract of expr.step over a stack of values, and of expr.Type. -/
import Derived.Test.YtafcbgapllkghaaGreatDoorEstepl
import Derived.Test.YtafcbgapllkghaaGreatDoorPopd
import Derived.Test.YtafcbgapllkghaaGreatDoorTmay
namespace Go.Proofs.YtafcbgapllkghaaGreatDoor
open Go.ChangeShapes Go.WideShapes Go.ChangeAt Go.RowKit
set_option linter.unusedVariables false

def kindsOf (S : List Vl) : List Int := S.reverse.map Vl.kind
def numsOf (S : List Vl) : List Int := S.reverse.map Vl.num
theorem kindsOf_cons (x : Vl) (S : List Vl) : kindsOf (x :: S) = kindsOf S ++ [x.kind] := by simp [kindsOf]
theorem numsOf_cons (x : Vl) (S : List Vl) : numsOf (x :: S) = numsOf S ++ [x.num] := by simp [numsOf]
theorem kindsOf_len (S : List Vl) : (kindsOf S).length = S.length := by simp [kindsOf]
theorem numsOf_len (S : List Vl) : (numsOf S).length = S.length := by simp [numsOf]
/-- what step tells, u being what the token gives, S' what is left under it -/
def LPost (m : Md) (g B : Nat) (gives : Int) (v : Value) (u : Vl) (S' : List Vl) (w : World) (e : Ending) (w' : World) : Prop :=
  (∃ c, u = .bad c ∧ (c = 4 ∨ c = 8) ∧ SErr c w e w') ∨ (((u = .bad 9 ∧ m.ty = false) ∨ ∃ n, u = .ok gives n) ∧ SOk B v (kindsOf S' ++ [gives]) w e w')
theorem fb_none_cons {x : Vl} {S : List Vl} (h : fb (x :: S) = none) : (∃ k n, x = .ok k n) ∧ fb S = none := by
  rw [fb_cons] at h
  cases hS : fb S with
  | some c => rw [hS] at h; cases h
  | none =>
    rw [hS] at h
    cases x with
    | bad c => cases h
    | ok k n => exact ⟨⟨k, n, rfl⟩, rfl⟩
theorem good_kind {k n : Int} (h : Good (.ok k n)) : k = 1 ∨ k = 2 := Or.elim h (fun h => .inl h.1) (fun h => .inr h.1)
theorem var_not {m : Md} {t : Tk} (h : ¬ (t.1 = 2 ∧ m.lim ≤ t.2.1)) : (t.1 == 2) = false ∨ (t.1 = 2 ∧ t.2.1 < m.lim) := by
  by_cases h2 : t.1 = 2
  · exact .inr ⟨h2, by omega⟩
  · exact .inl (by simpa using h2)
theorem step_leaf (m : Md) (t : Tk) (B : Nat) (v : Value) (S : List Vl) (w : World) (hown : w.ownsRow B 3 1 v S.length (intVals (kindsOf S))) (hl : S.length ≤ 1000) (hB : B ≤ w.heap.size) (ht : tak t = 0) :
    Calls Tryz.prog 29 #[v, .agg #[.int .i64 t.1, .int .i64 t.2.1, .int .i64 t.2.2], .int .i64 m.lim] w (LPost m 0 B (rul t.1).2.2 v (leafV m t) S w) := by
  by_cases hv : t.1 = 2 ∧ m.lim ≤ t.2.1
  · rw [hv.1]
    refine (step_none v t.2.1 t.2.2 m.lim w hv.2).mono fun e w' h => .inl ⟨4, leaf_none hv.1 hv.2, .inl rfl, h⟩
  · obtain ⟨n, hn⟩ := leaf_some (m := m) ht hv
    have hv' := var_not hv
    obtain ⟨r1, r2⟩ := rul_leaf ht
    have hown' := hown
    rcases hown.2 with ⟨rfl, h0⟩ | ⟨g, cap, cur, rfl, _, _, hcap, _⟩
    · obtain rfl : S = [] := List.eq_nil_of_length_eq_zero h0
      exact (step_nil t.1 t.2.1 t.2.2 m.lim B w r1 hv' hB).mono fun e w' h => .inr ⟨.inr ⟨n, hn⟩, h⟩
    · by_cases hc : cap = S.length
      · subst hc
        exact (step_full t.1 t.2.1 t.2.2 m.lim B g S.length (kindsOf S) w hown' (kindsOf_len S) hl r1 hv' hB).mono fun e w' h => .inr ⟨.inr ⟨n, hn⟩, h⟩
      · exact (step_room_ok t.1 t.2.1 t.2.2 m.lim B g S.length 0 cap (kindsOf S) [] w (by rw [List.append_nil]; exact hown') (kindsOf_len S) rfl (by omega) (by omega) r1 (fun k h => by cases h) hv' hB rfl).mono fun e w' h => .inr ⟨.inr ⟨n, hn⟩, h⟩
theorem step_un (m : Md) (t : Tk) (B : Nat) (v : Value) (k n : Int) (S : List Vl) (w : World) (hown : w.ownsRow B 3 1 v (S.length + 1) (intVals (kindsOf S ++ [k]))) (hl : S.length ≤ 900) (hB : B ≤ w.heap.size) (ht : tak t = 1) (hk : k = 1 ∨ k = 2) :
    Calls Tryz.prog 29 #[v, .agg #[.int .i64 t.1, .int .i64 t.2.1, .int .i64 t.2.2], .int .i64 m.lim] w (LPost m 0 B (rul t.1).2.2 v (unV t (.ok k n)) S w) := by
  have hown' := hown
  have hr := un_rul ht
  obtain ⟨s1, s2⟩ := un_step (n := n) ht hk
  have hne : (t.1 == 2) = false := by rcases tkk_one ht with rfl | rfl <;> rfl
  rcases hown.2 with ⟨_, h0⟩ | ⟨g, cap, cur, rfl, _, _, hcap, _⟩
  · omega
  · cases htk : tks (rul t.1).2.1 [k] with
    | true => exact (step_room_ok t.1 t.2.1 t.2.2 m.lim B g S.length 1 cap (kindsOf S) [k] w hown' (kindsOf_len S) rfl (by omega) (by omega) hr (fun j h => by obtain rfl := List.mem_singleton.1 h; omega) (.inl hne) hB htk).mono fun e w' h => .inr ⟨.inr (s1 htk), h⟩
    | false => exact (step_room_bad t.1 t.2.1 t.2.2 m.lim B g S.length 1 cap (kindsOf S) [k] w hown' (kindsOf_len S) rfl (by omega) (by omega) hr (fun j h => by obtain rfl := List.mem_singleton.1 h; omega) (.inl hne) htk).mono fun e w' h => .inl ⟨8, s2 htk, .inr rfl, h⟩
theorem step_bin (m : Md) (t : Tk) (B : Nat) (v : Value) (ak an bk bn : Int) (S : List Vl) (w : World) (hown : w.ownsRow B 3 1 v (S.length + 2) (intVals (kindsOf S ++ [ak, bk]))) (hl : S.length ≤ 900) (hB : B ≤ w.heap.size) (ht : tak t = 2) (ha : ak = 1 ∨ ak = 2) (hb : bk = 1 ∨ bk = 2) :
    Calls Tryz.prog 29 #[v, .agg #[.int .i64 t.1, .int .i64 t.2.1, .int .i64 t.2.2], .int .i64 m.lim] w (fun e w' => LPost m 0 B (rul t.1).2.2 v (binV m.ty t (.ok ak an) (.ok bk bn)) S w e w' ∧ (tks (rul t.1).2.1 [ak, bk] = false → SErr 8 w e w')) := by
  have hown' := hown
  have hr := bin_rul ht
  obtain ⟨s1, s2⟩ := bin_step (ty := m.ty) (an := an) (bn := bn) ht ha hb
  have hne : (t.1 == 2) = false := by obtain ⟨kd, rfl, h3, _⟩ := tkk_two ht; simp; omega
  have hnz : ∀ j ∈ [ak, bk], j ≠ 0 := fun j h => by
    rcases List.mem_cons.1 h with rfl | h
    · omega
    · obtain rfl := List.mem_singleton.1 h; omega
  rcases hown.2 with ⟨_, h0⟩ | ⟨g, cap, cur, rfl, _, _, hcap, _⟩
  · omega
  · cases htk : tks (rul t.1).2.1 [ak, bk] with
    | true => exact (step_room_ok t.1 t.2.1 t.2.2 m.lim B g S.length 2 cap (kindsOf S) [ak, bk] w hown' (kindsOf_len S) rfl (by omega) (by omega) hr hnz (.inl hne) hB htk).mono fun e w' h => ⟨.inr ⟨(s1 htk).elim .inr (fun h => .inl ⟨h.2, h.1⟩), h⟩, fun h => by cases h⟩
    | false => exact (step_room_bad t.1 t.2.1 t.2.2 m.lim B g S.length 2 cap (kindsOf S) [ak, bk] w hown' (kindsOf_len S) rfl (by omega) (by omega) hr hnz (.inl hne) htk).mono fun e w' h => ⟨.inl ⟨8, s2 htk, .inr rfl, h⟩, fun _ => h⟩
theorem step_any (m : Md) (t : Tk) (B : Nat) (v : Value) (S : List Vl) (w : World) (hown : w.ownsRow B 3 1 v S.length (intVals (kindsOf S))) (hf : fb S = none) (hg : AllGood S) (hl : S.length ≤ 900) (hB : B ≤ w.heap.size) (h0 : 0 ≤ tak t) (hn : tak t ≤ S.length) :
    Calls Tryz.prog 29 #[v, .agg #[.int .i64 t.1, .int .i64 t.2.1, .int .i64 t.2.2], .int .i64 m.lim] w (fun e w' => ∃ u S', vstep m t S = u :: S' ∧ fb S' = none ∧ LPost m 0 B (rul t.1).2.2 v u S' w e w') := by
  rcases tak_cases t with c | c | c | c
  · omega
  · exact (step_leaf m t B v S w hown (by omega) hB c).mono fun e w' h => ⟨_, _, vstep0 _ c, hf, h⟩
  · rcases S with _ | ⟨x, S⟩
    · rw [c] at hn; simp at hn
    · obtain ⟨⟨k, n, rfl⟩, hf'⟩ := fb_none_cons hf
      rw [kindsOf_cons] at hown
      rw [List.length_cons] at hl
      exact (step_un m t B v k n S w hown (by omega) hB c (good_kind (hg (.ok k n) (by simp)))).mono fun e w' h => ⟨_, _, vstep1 _ _ c, hf', h⟩
  · rcases S with _ | ⟨x, _ | ⟨y, S⟩⟩
    · rw [c] at hn; simp at hn
    · rw [c] at hn; simp at hn
    · obtain ⟨⟨bk, bn, rfl⟩, hf1⟩ := fb_none_cons hf
      obtain ⟨⟨ak, an, rfl⟩, hf2⟩ := fb_none_cons hf1
      rw [kindsOf_cons, kindsOf_cons, List.append_assoc] at hown
      rw [List.length_cons, List.length_cons] at hl
      exact (step_bin m t B v ak an bk bn S w hown (by omega) hB c (good_kind (hg (.ok ak an) (by simp))) (good_kind (hg (.ok bk bn) (by simp)))).mono fun e w' h => ⟨_, _, vstep2 _ _ _ c, hf2, h.1⟩
/-- what a postfix comes to -/
def ans (m : Md) (ts : List Tk) : Vl := if mayP ts = true then (vs m ts ts.length).headD (.bad 0) else .bad 2
def TyPost (a : Vl) (w : World) (e : Ending) (w' : World) : Prop :=
  Below w.heap.size w w' ∧ match a with
    | .ok k _ => e = .returned (.tuple #[.int .i64 k, .nilIface])
    | .bad c => e = .returned (.tuple #[.int .i64 0, .iface 78 (.int .i64 c)])
theorem stk_le' (ts : List Tk) : ∀ k, Valid ts k → (stk ts k).length ≤ k
  | 0, _ => Nat.le_refl _
  | k + 1, h => by
    have h1 := valid_len h
    have h2 := stk_le' ts k (h.mono (by omega))
    have h3 := (h k (by omega)).1
    omega
theorem neq_code_is (p : Value) (w : World) : (binOp .neq 48 (.iface 78 p) .nilIface).run Tryz.prog w = .ok (.bool true) w := by kernel_rfl
theorem ans_may (m : Md) {ts : List Tk} (hm : mayP ts = true) : ts.length ≤ 100 ∧ Valid ts ts.length ∧ vs m ts ts.length = [ans m ts] := by
  obtain ⟨hl, hV, x, hx⟩ := mayP_valid hm
  obtain ⟨v, hv⟩ := vs_top m hV (by rw [hx]; rfl)
  refine ⟨hl, hV, ?_⟩
  unfold ans
  rw [if_pos hm, hv]
  rfl
end Go.Proofs.YtafcbgapllkghaaGreatDoor
