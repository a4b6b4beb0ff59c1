/- The wheel's map: of an Id its At. -/
import Derived.Test.YtlfiijlfokckkaaYdel
import Derived.Test.YtlfiijlfokckkaaYstb
import Derived.Maps.OwnSet
namespace Go.Proofs.Ytlfiijlfokckkaa
open Go.ChangeShapes Go.WideShapes Go.ChangeAt Go.RowKit Go.Maps
set_option linter.unusedVariables false

def F64 (x : Int) : Prop := -9223372036854775808 ≤ x ∧ x ≤ 9223372036854775807
theorem F64.wf {x : Int} (h : F64 x) : (Lit.int .i64 x).wf = true := by
  unfold F64 at h
  have hmin : IntKind.i64.min = -9223372036854775808 := by decide
  have hmax : IntKind.i64.max = 9223372036854775807 := by decide
  simp [Lit.wf, hmin, hmax, h.1, h.2]
def hasId (S : List Tm) (id : Int) : Bool := S.any fun t => decide (t.id = id)
def tickOf (S : List Tm) (id : Int) : Int := match S.find? fun t => decide (t.id = id) with
  | some t => t.tick
  | none => 0
structure MapIs (D : DataW Unit) (S : List Tm) : Prop where
  size : Maps.size D = S.length
  has : ∀ id, F64 id → Maps.has D (.int .i64 id) = hasId S id
  at_ : ∀ id, F64 id → D.atKey (.int .i64 id) (.lit (.int .i64 0)) = .lit (.int .i64 (tickOf S id))
def IdsAt (w : World) (m : Nat) (S : List Tm) : Prop := ∃ D : DataW Unit, w.ownsMap Try.prog 3 (plainElem Try.prog 3) m S.length D ∧ MapIs D S
theorem law3 : Keyed Try.prog 3 := int_keyed Try.underlying3
theorem zero3 (w : World) : (zeroValue 3).run Try.prog w = .ok (.int .i64 0) w := by kernel_rfl
theorem key3 {id : Int} (h : F64 id) : keyOf Try.prog 3 (.int .i64 id) = some (.int .i64 id) := keyOf_int_mk Try.underlying3 h.wf
theorem lit_ne {a b : Int} (h : a ≠ b) : (Lit.int .i64 a) ≠ Lit.int .i64 b := fun hc => h (by injection hc)
theorem IdsAt.kept {w w' : World} {m : Nat} {row : Option Nat} {S : List Tm} (h : IdsAt w m S) (hg : w.grownBy w' row) (hne : some m ≠ row) : IdsAt w' m S := let ⟨D, h1, h2⟩ := h; ⟨D, h1.kept hg hne, h2⟩
theorem IdsAt.lt {w : World} {m : Nat} {S : List Tm} (h : IdsAt w m S) : m < w.heap.size := let ⟨_, h1, _⟩ := h; h1.lt
theorem IdsAt.drewN {w : World} {m : Nat} {S : List Tm} (h : IdsAt w m S) (n : Nat) : IdsAt (w.drewN n) m S := h
theorem IdsAt.below {w w' : World} {m : Nat} {S : List Tm} (h : IdsAt w m S) (hb : Below w.heap.size w w') : IdsAt w' m S := h.kept (only_of_below hb none) (by simp)
theorem IdsAt.made (w : World) : IdsAt (w.alloc (.map #[] 0)) w.heap.size [] :=
  ⟨.map [], World.ownsMap_made w Try.prog 3 _, rfl, fun _ _ => rfl, fun _ _ => rfl⟩
theorem IdsAt.len {w : World} {m : Nat} {S : List Tm} (h : IdsAt w m S) (ty : TypeId) : (Builtin.len_ #[43] ty #[.map (some m)]).run Try.prog w = .ok (.int .i64 (S.length : Int)) w := by
  obtain ⟨D, h1, h2⟩ := h
  rw [h1.len Try.underlying43 ty, h2.size]
theorem IdsAt.look {w : World} {m : Nat} {S : List Tm} {id : Int} (h : IdsAt w m S) (hid : F64 id) : (Instr.lookup 43 (.map (some m)) (.int .i64 id) true).run Try.prog w = .ok (.tuple #[.int .i64 (tickOf S id), .bool (hasId S id)]) w := by
  obtain ⟨D, h1, h2⟩ := h
  obtain ⟨v, ps, hrun, hv⟩ := h1.look_ok law3 Try.underlying43 (zero3 w) (plainElem_int Try.underlying3 (by decide)) (key3 hid)
  obtain ⟨c, rfl, hc, _⟩ := plainElem_int_inv Try.underlying3 hv
  have := congrArg Prod.fst hc
  simp only at this
  rw [h2.at_ id hid] at this
  injection this with this
  injection this with _ this
  rw [hrun, h2.has id hid, this]
theorem any_snoc (S : List Tm) (t : Tm) (id : Int) : hasId (S ++ [t]) id = (hasId S id || decide (t.id = id)) := by simp [hasId]
theorem MapIs.put {D : DataW Unit} {S : List Tm} {t : Tm} (h : MapIs D S) (hD : Tidy D) (hk : ∀ id, F64 id → WideAt.IsKeyLit (.int .i64 id)) (ht : F64 t.id) (hn : hasId S t.id = false) : MapIs (D.put (.int .i64 t.id) (.lit (.int .i64 t.tick))) (S ++ [t]) := by
  refine ⟨?_, fun id hid => ?_, fun id hid => ?_⟩
  · rw [size_put hD, h.has _ ht, hn, h.size]
    simp
  · rw [any_snoc]
    by_cases e : t.id = id
    · subst e
      rw [has_put_same hD.isMap (hk _ ht)]
      simp
    · rw [has_put_other (lit_ne (Ne.symm e)), h.has id hid]
      simp [e]
  · by_cases e : t.id = id
    · subst e
      rw [atKey_put_same hD.isMap (hk _ ht)]
      have hf : S.find? (fun s => decide (s.id = t.id)) = none := by
        rw [List.find?_eq_none]
        intro s hs
        have := hn
        unfold hasId at this
        rw [List.any_eq_false] at this
        exact this s hs
      unfold tickOf
      rw [List.find?_append, hf]
      simp
    · rw [atKey_put_other (lit_ne (Ne.symm e)), h.at_ id hid]
      unfold tickOf
      rw [List.find?_append]
      cases S.find? (fun s => decide (s.id = id)) with
      | none => simp [e]
      | some s => rfl
theorem IdsAt.store {w : World} {m : Nat} {S : List Tm} {t : Tm} (h : IdsAt w m S) (ht : F64 t.id) (hat : F64 t.tick) (hn : hasId S t.id = false) (hl : S.length ≤ 1000) :
    ∃ w', (Instr.mapUpdate 43 (.map (some m)) (.int .i64 t.id) (.int .i64 t.tick)).run Try.prog w = .ok () w' ∧ IdsAt w' m (S ++ [t]) ∧ w.grownBy w' (some m) := by
  obtain ⟨D, h1, h2⟩ := h
  obtain ⟨w', hrun, h3, h4⟩ := h1.store law3 Try.underlying43 (by unfold maxLen; omega) (key3 ht) (plainElem_int Try.underlying3 hat.wf)
  refine ⟨w', hrun, ⟨_, by simpa using h3, h2.put (h1.tidy law3) (fun id hid => law3.key (key3 hid)) ht hn⟩, h4.grown⟩
def dropId (S : List Tm) (id : Int) : List Tm := S.filter fun t => !decide (t.id = id)
theorem drop_len {S : List Tm} (hS : (S.map fun t => t.id).Nodup) (id : Int) : (dropId S id).length + (if hasId S id then 1 else 0) = S.length := by
  induction S with
  | nil => rfl
  | cons t S ih =>
    rw [List.map_cons, List.nodup_cons] at hS
    have ih := ih hS.2
    unfold dropId hasId at *
    by_cases e : t.id = id
    · have hn : S.any (fun t => decide (t.id = id)) = false := by
        rw [List.any_eq_false]
        intro s hs hc
        simp at hc
        exact hS.1 (by rw [e, ← hc]; exact List.mem_map_of_mem (f := fun t => t.id) hs)
      rw [hn] at ih
      simp [e] at ih ⊢
      simpa using ih
    · have e1 : decide (t.id = id) = false := decide_eq_false e
      rw [List.filter_cons, List.any_cons, e1, Bool.false_or, List.length_cons, ← ih]
      simp only [Bool.not_false, if_true, List.length_cons]
      omega
theorem has_drop (S : List Tm) (k id : Int) : hasId (dropId S k) id = (hasId S id && !decide (id = k)) := by
  unfold hasId dropId
  rw [List.any_filter]
  induction S with
  | nil => rfl
  | cons t S ih =>
    rw [List.any_cons, List.any_cons, ih]
    by_cases e : t.id = id
    · subst e; by_cases e2 : t.id = k <;> simp [e2]
    · simp [e]
theorem tick_drop (S : List Tm) (k id : Int) (h : id ≠ k) : tickOf (dropId S k) id = tickOf S id := by
  unfold tickOf dropId
  rw [List.find?_filter]
  congr 2
  funext t
  by_cases e : t.id = id
  · subst e; simp [h]
  · simp [e]
theorem tick_none {S : List Tm} {id : Int} (h : hasId S id = false) : tickOf S id = 0 := by
  unfold tickOf
  have : S.find? (fun t => decide (t.id = id)) = none := by
    rw [List.find?_eq_none]
    unfold hasId at h
    rw [List.any_eq_false] at h
    exact h
  rw [this]
theorem MapIs.del {D : DataW Unit} {S : List Tm} {k : Int} (h : MapIs D S) (hD : Tidy D) (hk : F64 k) (hS : (S.map fun t => t.id).Nodup) : MapIs (D.del (.int .i64 k)) (dropId S k) := by
  refine ⟨?_, fun id hid => ?_, fun id hid => ?_⟩
  · have h1 := size_del (k := .int .i64 k) hD
    have h2 := drop_len hS k
    rw [h.has k hk, h.size] at h1
    omega
  · rw [has_drop]
    by_cases e : id = k
    · subst e
      rw [has_del_same]
      simp
    · rw [has_del_other (lit_ne e), h.has id hid]
      simp [e]
  · by_cases e : id = k
    · subst e
      rw [atKey_del_same, tick_none (by rw [has_drop]; simp)]
    · rw [atKey_del_other (lit_ne e), h.at_ id hid, tick_drop _ _ _ e]
theorem IdsAt.drop {w : World} {m : Nat} {S : List Tm} {k : Int} (h : IdsAt w m S) (hk : F64 k) (hS : (S.map fun t => t.id).Nodup) (ty : TypeId) :
    ∃ w', (Builtin.delete_ #[43, 3] ty #[.map (some m), .int .i64 k]).run Try.prog w = .ok (.tuple #[]) w' ∧ IdsAt w' m (dropId S k) ∧ w.grownBy w' (some m) := by
  obtain ⟨D, h1, h2⟩ := h
  obtain ⟨w', hrun, h3, h4⟩ := h1.drop law3 Try.underlying43 (key3 hk) ty
  have hm := h2.del (h1.tidy law3) hk hS
  refine ⟨w', hrun, ⟨_, ?_, hm⟩, h4.grown⟩
  obtain ⟨es, clock, hb, F, hs, hD⟩ := h3
  refine ⟨es, clock, hb, F, ?_, hD⟩
  rw [← hm.size, hD]
  simp [Maps.size, length_sorted]
end Go.Proofs.Ytlfiijlfokckkaa
