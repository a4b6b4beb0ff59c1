/- The law MailboxPlays: it holds. -/
import Derived.Test.YtmolegodfepmnaaMlw1
import Derived.OrdersHeld
import Derived.Maps.AppendAt
namespace Go.Proofs.Ytmolegodfepmnaa
open Go.ChangeShapes Go.WideShapes Go.ChangeAt Go.RowKit
set_option linter.unusedVariables false

section
variable {P : Program} {ops : Array Oper} {Q : Exit → Act → World → Prop} {md : Region.Mode} {S : World → Prop} {D : Nat → Bool}

/-- whatever order is picked from here on; those that are not late keep S -/
def anyD (P : Program) (md : Region.Mode) (ops : Array Oper) (Q : Exit → Act → World → Prop) (S : World → Prop) (D : Nat → Bool) : Nat → Array Bool → Act → World → Prop
  | 0, listed, a, w => Region.ready md ops listed = [] ∧ Q .normal a w
  | fuel + 1, listed, a, w =>
    (Region.ready md ops listed = [] → Q .normal a w) ∧
    ∀ i ∈ Region.ready md ops listed, wpOp P ops Q i (fun a' w' => (D i = false → S w → S w') ∧ anyD P md ops Q S D fuel (listed.setIfInBounds i true) a' w') a w
theorem any_of_D : ∀ (fuel : Nat) (listed : Array Bool) (a : Act) (w : World), anyD P md ops Q S D fuel listed a w → wpAny P md ops Q fuel listed a w
  | 0, _, _, _, h => h
  | fuel + 1, _, _, _, h => ⟨h.1, fun i hi => wpOp_mono (fun a' w' h' => any_of_D fuel _ a' w' h'.2) (h.2 i hi)⟩
/-- does each late operation wait for this one? -/
def lateB (md : Region.Mode) (ops : Array Oper) (D : Nat → Bool) (i : Nat) : Bool :=
  (List.range ops.size).all fun j => !D j || ((ops[j]?).map (·.after.any fun e => Region.binds md e && e.on == i)).getD true
theorem lateB_spec {i : Nat} (h : lateB md ops D i = true) (j : Nat) (oj : Oper) (hj : ops[j]? = some oj) (hD : D j = true) : ∃ e ∈ oj.after, Region.binds md e = true ∧ e.on = i := by
  have hlt := (Array.getElem?_eq_some_iff.1 hj).1
  have := List.all_eq_true.1 h j (List.mem_range.2 hlt)
  rw [hD, hj] at this
  simp only [Bool.not_true, Bool.false_or, Option.map_some, Option.getD_some, Array.any_eq_true', Bool.and_eq_true, beq_iff_eq] at this
  obtain ⟨e, h1, h2⟩ := this
  exact ⟨e, h1, h2.1, h2.2⟩
theorem anyD_first {p : Prop} {i : Nat} {oi : Oper} {v : Value} (hi : ops[i]? = some oi) (hsel : ∀ (j : Nat) (o : Oper) cs b, ops[j]? = some o → o.op ≠ .select cs b)
    (hQ : ∀ c a w, Q (.panic c) (a.put oi.dst v) w → Q (.panic c) a w)
    (hD : p → ∀ j oj, ops[j]? = some oj → D j = true → ∃ e ∈ oj.after, Region.binds md e = true ∧ e.on = i) :
    ∀ (fuel : Nat) (listed : Array Bool) (a : Act) (w : World),
      (∀ j oj, ops[j]? = some oj → j ≠ i → listed.getD j true = false → (∀ e ∈ oj.after, Region.binds md e = true → e.on ≠ i) → oi.apart ops oj = true) →
      i ∈ Region.ready md ops listed → YieldsIf P ops (fun w => p → S w) oi v a → (p → S w) →
      anyD P md ops Q S D fuel (listed.setIfInBounds i true) (a.put oi.dst v) w → anyD P md ops Q S D (fuel + 1) listed a w := by
  intro fuel
  induction fuel with
  | zero =>
    intro listed a w _ hr hy hS H
    refine ⟨fun h => (by rw [h] at hr; cases hr), fun j hj => ?_⟩
    by_cases hji : j = i
    · subst hji
      exact hy.wpOp hi hS ⟨fun _ h => h, H⟩
    · have := ready_mono hj hji
      rw [H.1] at this
      cases this
  | succ fuel ih =>
    intro listed a w hfree hr hy hS H
    refine ⟨fun h => (by rw [h] at hr; cases hr), fun j hj => ?_⟩
    by_cases hji : j = i
    · subst hji
      exact hy.wpOp hi hS ⟨fun _ h => h, H⟩
    · have h1 := H.2 j (ready_mono hj hji)
      obtain ⟨hjun, oj, hoj, hall⟩ := mem_ready.1 hj
      have hun := (mem_ready.1 hr).1
      have hnot : ∀ e ∈ oj.after, Region.binds md e = true → e.on ≠ i := fun e he hb heq => by
        have h2 := hall e he hb
        rw [heq] at h2
        rcases Nat.lt_or_ge i listed.size with h' | h'
        · simp [h'] at hun h2; rw [hun] at h2; cases h2
        · simp [Array.getElem?_eq_none h'] at h2
      have h2 := wpOp_putIf hoj (hfree j oj hoj hji hjun hnot) (fun cs b => hsel i oi cs b hi) (fun cs b => hsel j oj cs b hoj) hQ hy h1
      have hfree' : ∀ k ok, ops[k]? = some ok → k ≠ i → (listed.setIfInBounds j true).getD k true = false →
          (∀ e ∈ ok.after, Region.binds md e = true → e.on ≠ i) → oi.apart ops ok = true := fun k ok hk hki hkun hno => by
        refine hfree k ok hk hki ?_ hno
        by_cases hjk : j = k
        · subst hjk; exact hjun
        · rw [getD_set_ne true hjk] at hkun; exact hkun
      refine wpOp_mono (fun a' w' h3 => ⟨h3.2.1, ih (listed.setIfInBounds j true) a' w' hfree' (ready_mono hr (Ne.symm hji)) h3.1 (fun hp => ?_) ?_⟩) h2
      · refine h3.2.1 ?_ (hS hp)
        cases hDj : D j with
        | false => rfl
        | true =>
          obtain ⟨e, he, hb, heq⟩ := hD hp j oj hoj hDj
          exact absurd heq (hnot e he hb)
      · rw [Array.setIfInBounds_comm _ _ hji]
        exact h3.2.2

/-- what yields in whatever world is taken first -/
theorem anyD_take {i : Nat} {oi : Oper} {v : Value} {fuel : Nat} {listed : Array Bool} {a : Act} {w : World} (hi : ops[i]? = some oi)
    (hs : Region.noSelect ops = true) (hf : Region.free md ops listed i = true) (hr : (Region.ready md ops listed).contains i = true)
    (hQ : ∀ c a w, Q (.panic c) (a.put oi.dst v) w → Q (.panic c) a w) (hy : Yields P ops oi v a)
    (h : anyD P md ops Q S D fuel (listed.setIfInBounds i true) (a.put oi.dst v) w) : anyD P md ops Q S D (fuel + 1) listed a w :=
  anyD_first (p := False) hi (Region.noSelect_spec hs) hQ (fun h => h.elim) fuel listed a w (Region.free_spec hi hf) (by simpa using hr) hy.yieldsIf (fun h => h.elim) h
/-- a load that each late operation waits for is taken first, where S holds -/
theorem anyD_load {i : Nat} {oi : Oper} {v : Value} {fuel : Nat} {listed : Array Bool} {a : Act} {w : World} (hi : ops[i]? = some oi)
    (hs : Region.noSelect ops = true) (hf : Region.free md ops listed i = true) (hr : (Region.ready md ops listed).contains i = true) (hl : lateB md ops D i = true)
    (hQ : ∀ c a w, Q (.panic c) (a.put oi.dst v) w → Q (.panic c) a w) (hy : YieldsIf P ops S oi v a) (hS : S w)
    (h : anyD P md ops Q S D fuel (listed.setIfInBounds i true) (a.put oi.dst v) w) : anyD P md ops Q S D (fuel + 1) listed a w :=
  anyD_first (p := True) hi (Region.noSelect_spec hs) hQ (fun _ => lateB_spec hl) fuel listed a w (Region.free_spec hi hf) (by simpa using hr)
    (hy.imp (fun h => ⟨h.1, fun w hw => h.2 w (hw trivial)⟩) id) (fun _ => hS) h
/-- one alone may come up -/
theorem anyD_one {i : Nat} {o : Oper} {fuel : Nat} {listed : Array Bool} {a : Act} {w : World} (ho : ops[i]? = some o) (hg : o.guard = none) (hr : Region.ready md ops listed = [i])
    (h : ∀ K : Act → World → Prop, Hid (∀ a' w', (D i = false → S w → S w') → anyD P md ops Q S D fuel (listed.setIfInBounds i true) a' w' → K a' w') → o.wp P a w K Q) : anyD P md ops Q S D (fuel + 1) listed a w := by
  refine ⟨fun h0 => (by rw [hr] at h0; cases h0), fun j hj => ?_⟩
  rw [hr, List.mem_singleton] at hj
  subst hj
  unfold wpOp
  rw [ho]
  simp only [Region.wanted, hg, if_true]
  exact .inl (h _ (Lib.hid fun a' w' h1 h2 => ⟨h1, h2⟩))
/-- one alone may come up, and its guard is met -/
theorem anyD_only {i : Nat} {o : Oper} {fuel : Nat} {listed : Array Bool} {a : Act} {w : World} (ho : ops[i]? = some o) (hg : Region.wanted o (yielded ops a.tmps) = true) (hr : Region.ready md ops listed = [i])
    (h : ∀ K : Act → World → Prop, Hid (∀ a' w', (D i = false → S w → S w') → anyD P md ops Q S D fuel (listed.setIfInBounds i true) a' w' → K a' w') → o.wp P a w K Q) : anyD P md ops Q S D (fuel + 1) listed a w := by
  refine ⟨fun h0 => (by rw [hr] at h0; cases h0), fun j hj => ?_⟩
  rw [hr, List.mem_singleton] at hj
  subst hj
  unfold wpOp
  rw [ho]
  simp only [hg, if_true]
  exact .inl (h _ (Lib.hid fun a' w' h1 h2 => ⟨h1, h2⟩))
theorem anyD_done {fuel : Nat} {listed : Array Bool} {a : Act} {w : World} (hr : Region.ready md ops listed = []) (h : Q .normal a w) : anyD P md ops Q S D fuel listed a w := by
  cases fuel with
  | zero => exact ⟨hr, h⟩
  | succ n => exact ⟨fun _ => h, by rw [hr]; simp⟩
theorem anyD_start (S : World → Prop) (D : Nat → Bool) {id : Nat} {a : Act} {w : World} (hm : P.follows .mixedOrders = true)
    (h : anyD P .any ops Q S D ops.size (Array.replicate ops.size false) a w.drew) : (Code.region id ops true).wp P Q a w :=
  wp_region_any hm (any_of_D _ _ _ _ h)
end
theorem anyD_two {P : Program} {ops : Array Oper} {Q : Exit → Act → World → Prop} {md : Region.Mode} {S : World → Prop} {D : Nat → Bool} {i j : Nat} {oi oj : Oper} {fuel : Nat} {listed : Array Bool} {a : Act} {w : World}
    (hi : ops[i]? = some oi) (hgi : oi.guard = none) (hj : ops[j]? = some oj) (hgj : oj.guard = none) (hr : Region.ready md ops listed = [i, j])
    (h1 : ∀ K : Act → World → Prop, Hid (∀ a' w', (D i = false → S w → S w') → anyD P md ops Q S D fuel (listed.setIfInBounds i true) a' w' → K a' w') → oi.wp P a w K Q)
    (h2 : ∀ K : Act → World → Prop, Hid (∀ a' w', (D j = false → S w → S w') → anyD P md ops Q S D fuel (listed.setIfInBounds j true) a' w' → K a' w') → oj.wp P a w K Q) : anyD P md ops Q S D (fuel + 1) listed a w := by
  refine ⟨fun h0 => (by rw [hr] at h0; cases h0), fun k hk => ?_⟩
  rw [hr] at hk
  rcases List.mem_cons.1 hk with rfl | hk
  · unfold wpOp
    rw [hi]
    simp only [Region.wanted, hgi, if_true]
    exact .inl (h1 _ (Lib.hid fun a' w' h1 h2 => ⟨h1, h2⟩))
  · obtain rfl := List.mem_singleton.1 hk
    unfold wpOp
    rw [hj]
    simp only [Region.wanted, hgj, if_true]
    exact .inl (h2 _ (Lib.hid fun a' w' h1 h2 => ⟨h1, h2⟩))
theorem wp_append_at {P : Program} {o : Oper} {a : Act} {w : World} {K : Act → World → Prop} {Q : Exit → Act → World → Prop} (s x : Operand) (t : TypeId)
    (ho : o.op = .call { callee := .builtin .append, args := #[s, x], argTypes := #[t, t] })
    (base : Nat) (e : TypeId) (i : TypeInfo) (z : Value) (size bytes : Nat) (ht : P.underlying t = some (.slice e)) (hi : P.info? e = some i) (hz : i.zero = some z)
    (hsize : i.size = size) (hby : i.bytes = bytes) (hzs : z.cells.size = size) (hsz : 0 < size)
    (v : Value) (n : Nat) (xs : List Value) (hs : a.eval s = v) (hown : w.ownsRow base e size v n xs)
    (ad : Addr) (m c : Nat) (news : List Value) (hx : a.eval x = .slice (some ad) m c) (hl : news.length = m * size) (hnews : ∀ j u, news[j]? = some u → w.cell? (ad.add j) = some u) (h1 : ∀ u ∈ news, u.oneCell' = true)
    (h63 : n + m ≤ maxLen) (hbytes : (n + m) * bytes ≤ 140737488355328) (hbase : base ≤ w.heap.size)
    (h : ∀ v' w', w'.ownsRow base e size v' (n + m) (xs ++ news) → w.grownBy w' v.ownBlock → (v'.ownBlock = v.ownBlock ∨ v'.ownBlock = some w.heap.size) → K (a.put o.dst v') w') :
    o.wp P a w K Q := by
  obtain ⟨v', w', hr, h2, h3, h4, h5⟩ := run_append_own_at (P := P) w base t o.type e i z size bytes ht hi hz hsize hby hzs hsz v n xs hown ad m c news hl hnews h1 h63 hbytes hbase
  unfold Oper.wp execOp
  simp only [ho, resolve, invoke, builtin, Sem.run_bind, Sem.run_pure, Result.andThen_ok, List.map_toArray, List.map_cons, List.map_nil, hs, hx, hr]
  exact h _ _ h2 h3 h5
def RowIs (w : World) (n : Nat) (v : Value) (len : Nat) (news : List Value) : Prop :=
  news.length = len * n ∧ ((∃ c, v = .slice none 0 c ∧ len = 0) ∨ ∃ ad cap, v = .slice (some ad) len cap ∧ (∀ j u, news[j]? = some u → w.cell? (ad.add j) = some u) ∧ ∀ u ∈ news, u.oneCell' = true)
theorem wp_append_row {P : Program} {w W : World} {o : Oper} {a : Act} {K : Act → World → Prop} {Q : Exit → Act → World → Prop} (s x : Operand) (t : TypeId)
    (ho : o.op = .call { callee := .builtin .append, args := #[s, x], argTypes := #[t, t] })
    (base : Nat) (e : TypeId) (i : TypeInfo) (z : Value) (size bytes : Nat) (ht : P.underlying t = some (.slice e)) (hi : P.info? e = some i) (hz : i.zero = some z)
    (hsize : i.size = size) (hby : i.bytes = bytes) (hzs : z.cells.size = size) (hsz : 0 < size)
    (v : Value) (n : Nat) (xs : List Value) (hs : a.eval s = v) (hown : W.ownsRow base e size v n xs)
    (u : Value) (m : Nat) (news : List Value) (hx : a.eval x = u) (hr : RowIs w size u m news) (hb : Below w.heap.size w W)
    (h63 : n + m ≤ maxLen) (hbytes : (n + m) * bytes ≤ 140737488355328) (hbase : base ≤ W.heap.size)
    (h : ∀ v' w', w'.ownsRow base e size v' (n + m) (xs ++ news) → W.grownBy w' v.ownBlock → K (a.put o.dst v') w') : o.wp P a W K Q := by
  obtain ⟨hn, ⟨c, rfl, rfl⟩ | ⟨ad, cap, rfl, hc, h1⟩⟩ := hr
  · obtain rfl : news = [] := List.eq_nil_of_length_eq_zero (by simpa using hn)
    have hrun : (Builtin.append_ #[t, t] o.type #[v, .slice none 0 c]).run P W = .ok v W := by
      rcases hown.2 with ⟨rfl, rfl⟩ | ⟨g, cap, cur, rfl, _, _, hnc, _⟩
      · simp [Builtin.append_, run_underlying ht, sizeOf, typeInfo, hi, Builtin.lenOf, Builtin.firstCells, go_sem]
      · simp [Builtin.append_, run_underlying ht, sizeOf, typeInfo, hi, Builtin.lenOf, Builtin.firstCells, hnc, storeCells, go_sem]
    unfold Oper.wp execOp
    simp only [ho, resolve, invoke, builtin, Sem.run_bind, Sem.run_pure, Result.andThen_ok, List.map_toArray, List.map_cons, List.map_nil, hs, hx, hrun]
    exact h v W (by simpa using hown) ⟨rfl, rfl, rfl, Nat.le_refl _, fun _ _ _ => rfl⟩
  · exact wp_append_at s x t ho base e i z size bytes ht hi hz hsize hby hzs hsz v n xs hs hown ad m cap news hx hn (fun j u hj => (hb.cell (Lib.lt_of_cell (hc j u hj))).trans (hc j u hj)) h1 h63 hbytes hbase (fun v' w' a1 a2 _ => h v' w' a1 a2)
theorem wrap_in (n : Int) (h : -9223372036854775808 ≤ n ∧ n ≤ 9223372036854775807) : wrap64 n = n := by unfold wrap64; omega
theorem pick_any (c : Int) (h1 : -9223372036854775808 ≤ c) (h2 : c ≤ 9223372036854775807) (w : World) :
    Calls Try.prog 8 #[.int .i64 c, .int .i64 6] w fun e w' => ∃ k : Int, e = .returned (.int .i64 k) ∧ 0 ≤ k ∧ k < 6 ∧ w' = w := by
  by_cases hc : c < 0
  · have e1 : wrap64 (c + 1) = c + 1 := wrap_in _ (by omega)
    have e2 : wrap64 (-(c + 1)) = -(c + 1) := wrap_in _ (by omega)
    have e3 : wrap64 (-1 + -c) = -1 + -c := wrap_in _ (by omega)
    have HR := Lib.hid (show 0 ≤ -((c + 1).tmod 6) ∧ -((c + 1).tmod 6) < 6 by have := Int.tmod_eq_emod_of_nonneg (a := -(c + 1)) (b := 6) (by omega); rw [Int.neg_tmod] at this; omega)
    go_enter Try.func8, Try.ntmps8
    go_wp2_with fail
    go_ret
    exact ⟨_, rfl, HR.out.1, HR.out.2, rfl⟩
  · have HR := Lib.hid (show 0 ≤ c % 6 ∧ c % 6 < 6 by omega)
    go_enter Try.func8, Try.ntmps8
    go_wp2_with fail
    go_ret
    exact ⟨_, rfl, HR.out.1, HR.out.2, rfl⟩
theorem own_none (w : World) : (w.alloc (.cells #[] 3)).ownsRow w.heap.size 3 1 (.slice (some ⟨w.heap.size, 0, none⟩) 0 0) 0 [] :=
  ⟨rfl, .inr ⟨w.heap.size, 0, #[], rfl, Nat.le_refl _, Blk.new w 3 #[], Nat.le_refl _, by unfold maxLen; omega, rfl, rfl⟩⟩
theorem own_base {w : World} {B B' : Nat} {e : TypeId} {s n : Nat} {v : Value} {xs : List Value} (h : w.ownsRow B e s v n xs) (hB : B' ≤ B) : w.ownsRow B' e s v n xs := by
  refine ⟨h.1, ?_⟩
  rcases h.2 with h0 | ⟨g, cap, cur, hv, hb, rest⟩
  · exact .inl h0
  · exact .inr ⟨g, cap, cur, hv, Nat.le_trans hB hb, rest⟩
theorem rowIs_in {w : World} {B : Nat} {v : Value} {L : List Int} (h : InAt w B 3 v L) : RowIs w 1 v L.length (intVals L) := by
  refine ⟨by rw [intVals_len]; omega, ?_⟩
  rcases h with ⟨rfl, rfl⟩ | ⟨g, o, cap, cur, rfl, hb, hg, hn, hs, ht⟩
  · exact .inl ⟨0, rfl, rfl⟩
  · refine .inr ⟨⟨g, o, none⟩, cap, rfl, fun j u hj => ?_, fun u hu => ?_⟩
    · rw [Addr.add_lit]
      exact InAt.cell (m := 0) (cap := 0) hg ht hj
    · unfold intVals at hu
      obtain ⟨x, _, rfl⟩ := List.mem_map.1 hu
      rfl
/-- the box has L, and the law's own row has K -/
structure Two (w : World) (b : Nat) (r : Int) (c : Bool) (vn : Value) (L : List Int) (vw : Value) (K : List Int) : Prop where
  box : FreeAt w b b r c vn L
  row : InAt w b 3 vw K
  apart : ∀ q, vw.ownBlock = some q → vn.ownBlock ≠ some q
theorem Two.moved {w w' : World} {b : Nat} {r : Int} {c c' : Bool} {vn vn' vw : Value} {L L' K : List Int} (h : Two w b r c vn L vw K) (hb : FreeAt w' b b r c' vn' L') (hm : Moved w w' b vn vn') : Two w' b r c' vn' L' vw K := by
  refine ⟨hb, ?_, fun q hq e => ?_⟩
  · have hne := h.row.else_ h.box.blk (by decide)
    have hap := h.apart
    rcases h.row with h0 | ⟨g, o, cap, cur, rfl, hB, hg, rest⟩
    · exact .inl h0
    · refine .inr ⟨g, o, cap, cur, rfl, hB, ?_, rest⟩
      exact (hm.block g hg.lt (fun e => hne (by rw [e]; rfl)) (hap g rfl)).trans hg
  · rcases hm.own q e with h1 | h1
    · exact h.apart q hq h1
    · have := (h.row.lt q hq).2; omega
/-- the law's row is made anew -/
theorem Two.fresh {w w' : World} {b : Nat} {r : Int} {c : Bool} {vn vw vw' : Value} {L K K' : List Int} (h : Two w b r c vn L vw K) (hb : Below w.heap.size w w') (hr : InAt w' w.heap.size 3 vw' K') (hle : b ≤ w.heap.size) : Two w' b r c vn L vw' K' :=
  ⟨⟨h.box.blk.below hb h.box.blk.lt, h.box.nums.below hb, h.box.le⟩, hr.base hle, fun q hq e => by have := (hr.lt q hq).1; have := (h.box.nums.lt q e).2; omega⟩
theorem putE_closed {r : Int} {L : List Int} : putE r true L = codeV 12 := rfl
theorem putL_closed {r : Int} {L : List Int} (n : Int) : putL r true L n = L := rfl
theorem putE_full {r : Int} {L : List Int} (h : ((L.length : Int) == r) = true) : putE r false L = codeV 6 := by unfold putE; rw [h]; rfl
theorem putL_full {r : Int} {L : List Int} (h : ((L.length : Int) == r) = true) (n : Int) : putL r false L n = L := by unfold putL; rw [h]; rfl
set_option maxHeartbeats 16000000 in
set_option maxRecDepth 100000 in
theorem plays_any (r : Int) (v : Value) (l : List (Int × Int)) (w : World) (hv : RowsAt 2 DeedAt w v l) (hfit : ∀ (i : Nat) (x : Int × Int), l[i]? = some x → -9223372036854775808 ≤ x.1 ∧ x.1 ≤ 9223372036854775807) :
    Calls Try.prog 3 #[.int .i64 r, v] w fun e w' => e = .returned (.bool true) ∧ Below w.heap.size w w' := by
  obtain ⟨A, cap, rfl, hcap, he⟩ := hv
  have HE := Lib.hid he
  have HF := Lib.hid hfit
  clear he hfit
  have e1 := fun W => (eql_codes W).1
  have n6 := fun W => (neq_codes W).1
  have n12 := fun W => (neq_codes W).2
  have en := eql_nil_nil
  have nn := neq_nil_nil
  by_cases h0 : r < 1 ∨ 1000 < r
  · have H0 := Lib.hid h0
    rcases h0 with h0 | h0
    · go_enter Try.func3, Try.ntmps3
      go_wp2_with fail
      refine (up_any _).mono ?_
      rintro e w1 ⟨rfl, hb1⟩
      go_wp2_with fail
      refine (new_bad _ _ H0.out).mono ?_
      rintro e w2 ⟨rfl, rfl⟩
      go_wp2_with fail
      go_ret
      exact ⟨rfl, hb1⟩
    · have h1 : ¬ r < 1 := by omega
      go_enter Try.func3, Try.ntmps3
      go_wp2_with fail
      refine (up_any _).mono ?_
      rintro e w1 ⟨rfl, hb1⟩
      go_wp2_with fail
      refine (new_bad _ _ H0.out).mono ?_
      rintro e w2 ⟨rfl, rfl⟩
      go_wp2_with fail
      go_ret
      exact ⟨rfl, hb1⟩
  have hr1 : ¬ r < 1 := fun h => h0 (.inl h)
  have hr2 : ¬ 1000 < r := fun h => h0 (.inr h)
  have HR := Lib.hid (show 1 ≤ r ∧ r ≤ 1000 by omega)
  clear h0
  go_enter Try.func3, Try.ntmps3
  go_wp2_with fail
  refine (up_any _).mono ?_
  rintro e w1 ⟨rfl, hb1⟩
  have HB1 := Lib.hid hb1
  clear hb1
  go_wp2_with fail
  refine (new_ok _ _ HR.out.1 HR.out.2).mono ?_
  rintro e w2 ⟨rfl, h2, hb2⟩
  obtain ⟨b, hb⟩ : ∃ b, w1.heap.size = b := ⟨_, rfl⟩
  rw [hb] at h2 hb2
  have hs2 : b ≤ w2.heap.size := by have := hb2.size; omega
  have hwb : w.heap.size ≤ b := by have := HB1.out.size; omega
  have HB2 := Lib.hid (HB1.out.trans (hb2.mono hwb))
  have H2 := Lib.hid h2
  rw [hb]
  clear h2 hb2 hb HB1
  by_cases hll : 200 < (l.length : Int)
  · go_wp2_with fail
    go_ret
    exact ⟨rfl, HB2.out⟩
  have HLL := Lib.hid (show l.length ≤ 200 by omega)
  go_wp2_with fail
  clear hr1 hr2
  go_loopw [8, 9, 10] (fun t8 t9 t10 wr => ∃ (k : Nat) (c : Bool) (vn vw : Value) (L : List Int), k ≤ l.length ∧ t8 = vw ∧ t9 = .bool c ∧ t10 = .int .i64 (k : Int) ∧ Two wr b r c vn L vw L ∧ (L.length : Int) ≤ r ∧ L.length ≤ k ∧ Below w.heap.size w wr ∧ b ≤ wr.heap.size) (fun _ _ t10 _ => l.length - (intOf t10).toNat)
  case atStart => exact ⟨0, false, _, _, [], Nat.zero_le _, rfl, rfl, rfl, ⟨H2.out, .inl ⟨rfl, rfl⟩, fun q hq => by cases hq⟩, by have := HR.out; simp; omega, Nat.zero_le _, HB2.out, hs2⟩
  case round =>
    obtain ⟨k, c, vn, vw, L, hk, rfl, rfl, rfl, htwo, hLr, hLk, hbw, hsz⟩ := hrel
    obtain ⟨wo, rfl⟩ : ∃ wo : World, wo = wr := ⟨_, rfl⟩
    obtain ⟨Aw, cw, rfl⟩ := htwo.row.slice
    have HT := Lib.hid htwo
    have HBW := Lib.hid hbw
    have HLR := Lib.hid hLr
    have HLK := Lib.hid hLk
    clear htwo hbw hLr hLk H2 HB2
    by_cases hlt : k < l.length
    · obtain ⟨g, o, rfl, hg, hc⟩ := HE.out k _ (List.getElem?_eq_getElem hlt)
      have hfx := HF.out k _ (List.getElem?_eq_getElem hlt)
      have HC := Lib.hid (fun W (h : Below w.heap.size w W) => DeedAt.keeps w W g _ _ h hg hc)
      clear hc
      generalize l[k] = x at *
      obtain ⟨xw, xn⟩ := x
      obtain ⟨c0, c1⟩ := HC.out wo HBW.out
      simp only at c0 c1 hfx
      have HFX := Lib.hid hfx
      clear hfx
      go_wp2_with fail
      refine (pick_any xw HFX.out.1 HFX.out.2 _).mono ?_
      rintro e w3 ⟨q, rfl, hq0, hq6, rfl⟩
      obtain rfl | rfl | rfl | rfl | rfl | rfl : q = 0 ∨ q = 1 ∨ q = 2 ∨ q = 3 ∨ q = 4 ∨ q = 5 := by omega
      · as_aux_lemma =>
          have hl6 : L.length ≤ 1000000 := by have := HLK.out; have := HLL.out; omega
          by_cases hful : r ≤ (L.length : Int)
          · have hE : ((L.length : Int) == r) = true := by have := HLR.out; simp; omega
            have HER := Lib.hid hE
            clear hE
            cases c with
            | true =>
              go_wp2_with fail
              refine (put_any HT.out.box hsz xn hl6).mono ?_
              rw [putE_closed, putL_closed]
              rintro e w4 ⟨rfl, v4, h4, m4⟩
              have hs4 : b ≤ w4.heap.size := Nat.le_trans hsz m4.size
              have HB4 := Lib.hid (HBW.out.trans ((HT.out.box.under m4 hsz).mono hwb))
              have H4 := Lib.hid (HT.out.moved h4 m4)
              clear h4 m4 HT HBW
              go_wp2_with fail
              go_roundw
              case rel => exact ⟨k + 1, true, _, _, L, by omega, rfl, rfl, by go_num, H4.out, HLR.out, by have := HLK.out; omega, HB4.out, hs4⟩
              case measure => simp [intOf]; omega
            | false =>
              go_wp2_with fail
              refine (put_any HT.out.box hsz xn hl6).mono ?_
              rw [putE_full HER.out, putL_full HER.out]
              rintro e w4 ⟨rfl, v4, h4, m4⟩
              have hs4 : b ≤ w4.heap.size := Nat.le_trans hsz m4.size
              have HB4 := Lib.hid (HBW.out.trans ((HT.out.box.under m4 hsz).mono hwb))
              have H4 := Lib.hid (HT.out.moved h4 m4)
              clear h4 m4 HT HBW
              go_wp2_with fail
              go_roundw
              case rel => exact ⟨k + 1, false, _, _, L, by omega, rfl, rfl, by go_num, H4.out, HLR.out, by have := HLK.out; omega, HB4.out, hs4⟩
              case measure => simp [intOf]; omega
          · have hne : ¬ (L.length : Int) = r := by omega
            have HNE := Lib.hid hne
            clear hne
            cases c with
            | true =>
              go_wp2_with fail
              refine (put_any HT.out.box hsz xn hl6).mono ?_
              rw [putE_closed, putL_closed]
              rintro e w4 ⟨rfl, v4, h4, m4⟩
              have hs4 : b ≤ w4.heap.size := Nat.le_trans hsz m4.size
              have HB4 := Lib.hid (HBW.out.trans ((HT.out.box.under m4 hsz).mono hwb))
              have H4 := Lib.hid (HT.out.moved h4 m4)
              clear h4 m4 HT HBW
              go_wp2_with fail
              go_roundw
              case rel => exact ⟨k + 1, true, _, _, L, by omega, rfl, rfl, by go_num, H4.out, HLR.out, by have := HLK.out; omega, HB4.out, hs4⟩
              case measure => simp [intOf]; omega
            | false =>
              go_wp2_with fail
              refine (put_any HT.out.box hsz xn hl6).mono ?_
              rw [putE_room HNE.out, putL_room HNE.out]
              rintro e w4 ⟨rfl, v4, h4, m4⟩
              have hs4 : b ≤ w4.heap.size := Nat.le_trans hsz m4.size
              have HB4 := Lib.hid (HBW.out.trans ((HT.out.box.under m4 hsz).mono hwb))
              have H4 := Lib.hid (HT.out.moved h4 m4)
              clear h4 m4 HT HBW
              obtain ⟨c0, c1⟩ := HC.out w4 HB4.out
              simp only at c0 c1
              have HC4 := Lib.hid (fun W (h : Below w4.heap.size w4 W) => (HC.out W (HB4.out.trans (h.mono HB4.out.size))).2)
              have HLX := Lib.hid (show L.length + 1 ≤ 300 by have := HLK.out; have := HLL.out; omega)
              have HRW := Lib.hid (fun W (h : Below w4.heap.size w4 W) => rowIs_in (H4.out.row.below h))
              have hki : (k : Int) < (l.length : Int) := by omega
              clear hl6
              go_wp2_with fail
              refine anyD_start (fun W => Below w4.heap.size w4 W) (fun _ => false) (by kernel_rfl) ?_
              refine anyD_take (i := 1) (v := .slice Aw L.length cw) rfl (by kernel_rfl) (by kernel_rfl) (by kernel_rfl) (fun _ _ _ h => h) (Or.inl ⟨by kernel_rfl, fun w => by go_simp⟩) ?_
              try simp only [Act.put, List.setIfInBounds_toArray, List.set_cons_zero, List.set_cons_succ, List.getElem_toArray, List.getElem_cons_zero, List.getElem_cons_succ]
              refine anyD_take (i := 3) (v := .slice (some ⟨g, o, none⟩) l.length cap) rfl (by kernel_rfl) (by kernel_rfl) (by kernel_rfl) (fun _ _ _ h => h) (Or.inl ⟨by kernel_rfl, fun w => by go_simp⟩) ?_
              try simp only [Act.put, List.setIfInBounds_toArray, List.set_cons_zero, List.set_cons_succ, List.getElem_toArray, List.getElem_cons_zero, List.getElem_cons_succ]
              refine anyD_take (i := 4) (v := .int .i64 (k : Int)) rfl (by kernel_rfl) (by kernel_rfl) (by kernel_rfl) (fun _ _ _ h => h) (Or.inl ⟨by kernel_rfl, fun w => by go_simp⟩) ?_
              try simp only [Act.put, List.setIfInBounds_toArray, List.set_cons_zero, List.set_cons_succ, List.getElem_toArray, List.getElem_cons_zero, List.getElem_cons_succ]
              refine anyD_take (i := 5) (v := .pointer (some ⟨g, o + k * 2, none⟩)) rfl (by kernel_rfl) (by kernel_rfl) (by kernel_rfl) (fun _ _ _ h => h) (Or.inl ⟨by kernel_rfl, fun w => by go_simp⟩) ?_
              try simp only [Act.put, List.setIfInBounds_toArray, List.set_cons_zero, List.set_cons_succ, List.getElem_toArray, List.getElem_cons_zero, List.getElem_cons_succ]
              refine anyD_take (i := 6) (v := .pointer (some ⟨g, o + k * 2 + 1, none⟩)) rfl (by kernel_rfl) (by kernel_rfl) (by kernel_rfl) (fun _ _ _ h => h) (Or.inl ⟨by kernel_rfl, fun w => by go_simp⟩) ?_
              try simp only [Act.put, List.setIfInBounds_toArray, List.set_cons_zero, List.set_cons_succ, List.getElem_toArray, List.getElem_cons_zero, List.getElem_cons_succ]
              refine anyD_load (i := 7) (v := .int .i64 xn) rfl (by kernel_rfl) (by kernel_rfl) (by kernel_rfl) (by kernel_rfl) (fun _ _ _ h => h) (Or.inl ⟨by kernel_rfl, fun w hS => by have hc := HC4.out w hS; go_simp⟩) (Below.refl _ _).drew ?_
              try simp only [Act.put, List.setIfInBounds_toArray, List.set_cons_zero, List.set_cons_succ, List.getElem_toArray, List.getElem_cons_zero, List.getElem_cons_succ]
              obtain ⟨iI, ki, kz0, kz1, kz2⟩ := info_parts Try.info3
              have KI := Lib.hid ki
              have KZ0 := Lib.hid kz0
              have KZ1 := Lib.hid kz1
              have KZ2 := Lib.hid kz2
              have hlx := HLX.out
              clear ki kz0 kz1 kz2 c0 c1
              refine anyD_two (i := 0) (j := 8) rfl rfl rfl rfl (by kernel_rfl) (fun K HK => ?oA) (fun K HK => ?oB)
              case oA =>
                go_simp
                have HB1 := Lib.hid (((Below.refl w4.heap.size w4).alloc (Nat.le_refl _) (.cells #[] 3)).drew)
                have HE1 : Hid ((w4.alloc (.cells #[] 3)).drew.ownsRow w4.heap.size 3 1 (.slice (some ⟨w4.heap.size, 0, none⟩) 0 0) 0 []) := Lib.hid (own_none w4)
                refine HK.out _ _ (fun _ _ => HB1.out) ?_
                clear HK K
                try simp only [Act.put, List.setIfInBounds_toArray, List.set_cons_zero, List.set_cons_succ, List.getElem_toArray, List.getElem_cons_zero, List.getElem_cons_succ]
                generalize (w4.alloc (.cells #[] 3)).drew = W1 at *
                refine anyD_two (i := 2) (j := 8) rfl rfl rfl rfl (by kernel_rfl) (fun K HK => ?oA1) (fun K HK => ?oA2)
                case oA1 =>
                  refine wp_append_row (w := w4) (W := W1) _ _ 30 rfl w4.heap.size 3 iI (.int .i64 0) 1 8 Try.underlying30 KI.out KZ0.out KZ1.out KZ2.out rfl (by decide) _ 0 [] rfl HE1.out _ L.length (intVals L) rfl (rowIs_in H4.out.row) HB1.out ?c3_1 ?c4_1 HB1.out.size (fun v2 W2 ho2 hg2 => ?c6_1)
                  case c3_1 => unfold maxLen; omega
                  case c4_1 => omega
                  have HB2 := Lib.hid (HB1.out.grown hg2 HB1.out.size (fun q hq => (HE1.out.lt q hq).1))
                  have HO2 : Hid (W2.ownsRow w4.heap.size 3 1 v2 L.length (intVals L)) := Lib.hid (by simpa using ho2)
                  refine HK.out _ _ (fun _ _ => HB2.out) ?_
                  clear HK K
                  try simp only [Act.put, List.setIfInBounds_toArray, List.set_cons_zero, List.set_cons_succ, List.getElem_toArray, List.getElem_cons_zero, List.getElem_cons_succ]
                  refine anyD_one (i := 8) rfl rfl (by kernel_rfl) (fun K HK => ?_)
                  go_simp
                  have HB3 := Lib.hid (HB2.out.alloc HB2.out.size (.cells #[.int .i64 xn] 3))
                  obtain ⟨g3, hg3⟩ : ∃ q, W2.heap.size = q := ⟨_, rfl⟩
                  have HN3 := Lib.hid (Blk.new W2 3 #[.int .i64 xn])
                  have HO3 := Lib.hid (own_below HO2.out ((Below.refl _ W2).alloc (Nat.le_refl _) (.cells #[.int .i64 xn] 3)))
                  refine HK.out _ _ (fun _ _ => HB3.out) ?_
                  clear HK K
                  try simp only [Act.put, List.setIfInBounds_toArray, List.set_cons_zero, List.set_cons_succ, List.getElem_toArray, List.getElem_cons_zero, List.getElem_cons_succ]
                  rw [hg3] at HN3 ⊢
                  generalize W2.alloc (.cells #[.int .i64 xn] 3) = W3 at *
                  refine anyD_one (i := 9) rfl rfl (by kernel_rfl) (fun K HK => ?_)
                  refine wp_append_at _ _ 30 rfl w4.heap.size 3 iI (.int .i64 0) 1 8 Try.underlying30 KI.out KZ0.out KZ1.out KZ2.out rfl (by decide) _ L.length (intVals L) rfl HO3.out ⟨g3, 0, none⟩ 1 1 [.int .i64 xn] rfl rfl ?c2_2 (int_one xn) ?c3_2 ?c4_2 HB3.out.size (fun v9 w9 ho9 hg9 _ => ?c6_2)
                  case c2_2 =>
                    intro j u hj
                    match j, hj with
                    | 0, hj => simp at hj; subst hj; exact HN3.out.cell 0
                    | j + 1, hj => simp at hj
                  case c3_2 => unfold maxLen; omega
                  case c4_2 => omega
                  have HB9 := Lib.hid (HB3.out.grown hg9 HB3.out.size (fun q hq => (HO3.out.lt q hq).1))
                  have hi9 : InAt w9 w4.heap.size 3 v9 (L ++ [xn]) := InAt.of_own (n := L.length + 1) (by rw [intVals_app]; exact ho9)
                  refine HK.out _ _ (fun _ _ => HB9.out) ?_
                  clear HK K
                  try simp only [Act.put, List.setIfInBounds_toArray, List.set_cons_zero, List.set_cons_succ, List.getElem_toArray, List.getElem_cons_zero, List.getElem_cons_succ]
                  obtain ⟨A9, c9, rfl⟩ := hi9.slice
                  have H9 := Lib.hid (H4.out.fresh HB9.out hi9 hs4)
                  simp only [List.length_append, List.length_singleton] at H9
                  have HBW9 := Lib.hid (HB4.out.trans (HB9.out.mono HB4.out.size))
                  have hs9 : b ≤ w9.heap.size := Nat.le_trans hs4 HB9.out.size
                  refine anyD_one (i := 10) rfl rfl (by kernel_rfl) (fun K HK => ?_)
                  go_simp
                  refine HK.out _ _ (fun _ h => h) ?_
                  clear HK K hi9 ho9 hg9
                  try simp only [Act.put, List.setIfInBounds_toArray, List.set_cons_zero, List.set_cons_succ, List.getElem_toArray, List.getElem_cons_zero, List.getElem_cons_succ]
                  refine anyD_done (by kernel_rfl) ?_
                  go_wp2_with fail
                  go_roundw
                  case rel => exact ⟨k + 1, false, _, _, L ++ [xn], by omega, rfl, rfl, by go_num, H9.out, by have := HLR.out; have := HNE.out; simp only [List.length_append, List.length_singleton]; omega, by have := HLK.out; simp only [List.length_append, List.length_singleton]; omega, HBW9.out, hs9⟩
                  case measure => simp [intOf]; omega
                case oA2 =>
                  go_simp
                  have HB2 := Lib.hid (HB1.out.alloc HB1.out.size (.cells #[.int .i64 xn] 3))
                  obtain ⟨g2, hg2⟩ : ∃ q, W1.heap.size = q := ⟨_, rfl⟩
                  have HN2 := Lib.hid (Blk.new W1 3 #[.int .i64 xn])
                  have HE2 := Lib.hid (own_below HE1.out ((Below.refl _ W1).alloc (Nat.le_refl _) (.cells #[.int .i64 xn] 3)))
                  have HX2 : Hid (¬ g2 = w4.heap.size) := Lib.hid (by have := (HE1.out.lt w4.heap.size rfl).2; omega)
                  refine HK.out _ _ (fun _ _ => HB2.out) ?_
                  clear HK K
                  try simp only [Act.put, List.setIfInBounds_toArray, List.set_cons_zero, List.set_cons_succ, List.getElem_toArray, List.getElem_cons_zero, List.getElem_cons_succ]
                  rw [hg2] at HN2 ⊢
                  generalize W1.alloc (.cells #[.int .i64 xn] 3) = W2 at *
                  refine anyD_one (i := 2) rfl rfl (by kernel_rfl) (fun K HK => ?_)
                  refine wp_append_row (w := w4) (W := W2) _ _ 30 rfl w4.heap.size 3 iI (.int .i64 0) 1 8 Try.underlying30 KI.out KZ0.out KZ1.out KZ2.out rfl (by decide) _ 0 [] rfl HE2.out _ L.length (intVals L) rfl (rowIs_in H4.out.row) HB2.out ?c3_3 ?c4_3 HB2.out.size (fun v3 W3 ho3 hg3 => ?c6_3)
                  case c3_3 => unfold maxLen; omega
                  case c4_3 => omega
                  have HB3 := Lib.hid (HB2.out.grown hg3 HB2.out.size (fun q hq => (HE2.out.lt q hq).1))
                  have HO3 : Hid (W3.ownsRow w4.heap.size 3 1 v3 L.length (intVals L)) := Lib.hid (by simpa using ho3)
                  have HN3 := Lib.hid (HN2.out.grown hg3 (fun e => HX2.out (Option.some.inj e)))
                  refine HK.out _ _ (fun _ _ => HB3.out) ?_
                  clear HK K
                  try simp only [Act.put, List.setIfInBounds_toArray, List.set_cons_zero, List.set_cons_succ, List.getElem_toArray, List.getElem_cons_zero, List.getElem_cons_succ]
                  refine anyD_one (i := 9) rfl rfl (by kernel_rfl) (fun K HK => ?_)
                  refine wp_append_at _ _ 30 rfl w4.heap.size 3 iI (.int .i64 0) 1 8 Try.underlying30 KI.out KZ0.out KZ1.out KZ2.out rfl (by decide) _ L.length (intVals L) rfl HO3.out ⟨g2, 0, none⟩ 1 1 [.int .i64 xn] rfl rfl ?c2_4 (int_one xn) ?c3_4 ?c4_4 HB3.out.size (fun v9 w9 ho9 hg9 _ => ?c6_4)
                  case c2_4 =>
                    intro j u hj
                    match j, hj with
                    | 0, hj => simp at hj; subst hj; exact HN3.out.cell 0
                    | j + 1, hj => simp at hj
                  case c3_4 => unfold maxLen; omega
                  case c4_4 => omega
                  have HB9 := Lib.hid (HB3.out.grown hg9 HB3.out.size (fun q hq => (HO3.out.lt q hq).1))
                  have hi9 : InAt w9 w4.heap.size 3 v9 (L ++ [xn]) := InAt.of_own (n := L.length + 1) (by rw [intVals_app]; exact ho9)
                  refine HK.out _ _ (fun _ _ => HB9.out) ?_
                  clear HK K
                  try simp only [Act.put, List.setIfInBounds_toArray, List.set_cons_zero, List.set_cons_succ, List.getElem_toArray, List.getElem_cons_zero, List.getElem_cons_succ]
                  obtain ⟨A9, c9, rfl⟩ := hi9.slice
                  have H9 := Lib.hid (H4.out.fresh HB9.out hi9 hs4)
                  simp only [List.length_append, List.length_singleton] at H9
                  have HBW9 := Lib.hid (HB4.out.trans (HB9.out.mono HB4.out.size))
                  have hs9 : b ≤ w9.heap.size := Nat.le_trans hs4 HB9.out.size
                  refine anyD_one (i := 10) rfl rfl (by kernel_rfl) (fun K HK => ?_)
                  go_simp
                  refine HK.out _ _ (fun _ h => h) ?_
                  clear HK K hi9 ho9 hg9
                  try simp only [Act.put, List.setIfInBounds_toArray, List.set_cons_zero, List.set_cons_succ, List.getElem_toArray, List.getElem_cons_zero, List.getElem_cons_succ]
                  refine anyD_done (by kernel_rfl) ?_
                  go_wp2_with fail
                  go_roundw
                  case rel => exact ⟨k + 1, false, _, _, L ++ [xn], by omega, rfl, rfl, by go_num, H9.out, by have := HLR.out; have := HNE.out; simp only [List.length_append, List.length_singleton]; omega, by have := HLK.out; simp only [List.length_append, List.length_singleton]; omega, HBW9.out, hs9⟩
                  case measure => simp [intOf]; omega
              case oB =>
                go_simp
                have HB1 := Lib.hid (((Below.refl w4.heap.size w4).alloc (Nat.le_refl _) (.cells #[.int .i64 xn] 3)).drew)
                have HN1 : Hid (Blk (w4.alloc (.cells #[.int .i64 xn] 3)).drew w4.heap.size 3 #[.int .i64 xn]) := Lib.hid (Blk.new w4 3 #[.int .i64 xn])
                refine HK.out _ _ (fun _ _ => HB1.out) ?_
                clear HK K
                try simp only [Act.put, List.setIfInBounds_toArray, List.set_cons_zero, List.set_cons_succ, List.getElem_toArray, List.getElem_cons_zero, List.getElem_cons_succ]
                generalize (w4.alloc (.cells #[.int .i64 xn] 3)).drew = W1 at *
                refine anyD_one (i := 0) rfl rfl (by kernel_rfl) (fun K HK => ?_)
                go_simp
                have HB2 := Lib.hid (HB1.out.alloc HB1.out.size (.cells #[] 3))
                have HE2 := Lib.hid (own_base (own_none W1) HB1.out.size)
                have HN2 := Lib.hid ((Blk.alloc (HN1.out) (.cells #[] 3)))
                refine HK.out _ _ (fun _ _ => HB2.out) ?_
                clear HK K
                try simp only [Act.put, List.setIfInBounds_toArray, List.set_cons_zero, List.set_cons_succ, List.getElem_toArray, List.getElem_cons_zero, List.getElem_cons_succ]
                have HX2 : Hid (¬ w4.heap.size = W1.heap.size) := Lib.hid (by have := HN1.out.lt; omega)
                generalize hq2 : W1.heap.size = q2 at *
                generalize W1.alloc (.cells #[] 3) = W2 at *
                refine anyD_one (i := 2) rfl rfl (by kernel_rfl) (fun K HK => ?_)
                refine wp_append_row (w := w4) (W := W2) _ _ 30 rfl w4.heap.size 3 iI (.int .i64 0) 1 8 Try.underlying30 KI.out KZ0.out KZ1.out KZ2.out rfl (by decide) _ 0 [] rfl HE2.out _ L.length (intVals L) rfl (rowIs_in H4.out.row) HB2.out ?c3_5 ?c4_5 HB2.out.size (fun v3 W3 ho3 hg3 => ?c6_5)
                case c3_5 => unfold maxLen; omega
                case c4_5 => omega
                have HB3 := Lib.hid (HB2.out.grown hg3 HB2.out.size (fun q hq => (HE2.out.lt q hq).1))
                have HO3 : Hid (W3.ownsRow w4.heap.size 3 1 v3 L.length (intVals L)) := Lib.hid (by simpa using ho3)
                have HN3 := Lib.hid (HN2.out.grown hg3 (fun e => HX2.out (Option.some.inj e)))
                refine HK.out _ _ (fun _ _ => HB3.out) ?_
                clear HK K
                try simp only [Act.put, List.setIfInBounds_toArray, List.set_cons_zero, List.set_cons_succ, List.getElem_toArray, List.getElem_cons_zero, List.getElem_cons_succ]
                refine anyD_one (i := 9) rfl rfl (by kernel_rfl) (fun K HK => ?_)
                refine wp_append_at _ _ 30 rfl w4.heap.size 3 iI (.int .i64 0) 1 8 Try.underlying30 KI.out KZ0.out KZ1.out KZ2.out rfl (by decide) _ L.length (intVals L) rfl HO3.out ⟨w4.heap.size, 0, none⟩ 1 1 [.int .i64 xn] rfl rfl ?c2_6 (int_one xn) ?c3_6 ?c4_6 HB3.out.size (fun v9 w9 ho9 hg9 _ => ?c6_6)
                case c2_6 =>
                  intro j u hj
                  match j, hj with
                  | 0, hj => simp at hj; subst hj; exact HN3.out.cell 0
                  | j + 1, hj => simp at hj
                case c3_6 => unfold maxLen; omega
                case c4_6 => omega
                have HB9 := Lib.hid (HB3.out.grown hg9 HB3.out.size (fun q hq => (HO3.out.lt q hq).1))
                have hi9 : InAt w9 w4.heap.size 3 v9 (L ++ [xn]) := InAt.of_own (n := L.length + 1) (by rw [intVals_app]; exact ho9)
                refine HK.out _ _ (fun _ _ => HB9.out) ?_
                clear HK K
                try simp only [Act.put, List.setIfInBounds_toArray, List.set_cons_zero, List.set_cons_succ, List.getElem_toArray, List.getElem_cons_zero, List.getElem_cons_succ]
                obtain ⟨A9, c9, rfl⟩ := hi9.slice
                have H9 := Lib.hid (H4.out.fresh HB9.out hi9 hs4)
                simp only [List.length_append, List.length_singleton] at H9
                have HBW9 := Lib.hid (HB4.out.trans (HB9.out.mono HB4.out.size))
                have hs9 : b ≤ w9.heap.size := Nat.le_trans hs4 HB9.out.size
                refine anyD_one (i := 10) rfl rfl (by kernel_rfl) (fun K HK => ?_)
                go_simp
                refine HK.out _ _ (fun _ h => h) ?_
                clear HK K hi9 ho9 hg9
                try simp only [Act.put, List.setIfInBounds_toArray, List.set_cons_zero, List.set_cons_succ, List.getElem_toArray, List.getElem_cons_zero, List.getElem_cons_succ]
                refine anyD_done (by kernel_rfl) ?_
                go_wp2_with fail
                go_roundw
                case rel => exact ⟨k + 1, false, _, _, L ++ [xn], by omega, rfl, rfl, by go_num, H9.out, by have := HLR.out; have := HNE.out; simp only [List.length_append, List.length_singleton]; omega, by have := HLK.out; simp only [List.length_append, List.length_singleton]; omega, HBW9.out, hs9⟩
                case measure => simp [intOf]; omega
      · as_aux_lemma =>
          have hl6 : L.length ≤ 1000000 := by have := HLK.out; have := HLL.out; omega
          by_cases hful : r ≤ (L.length : Int)
          · have hE : ((L.length : Int) == r) = true := by have := HLR.out; simp; omega
            have HER := Lib.hid hE
            clear hE
            cases c with
            | true =>
              go_wp2_with fail
              refine (push_any HT.out.box hsz xn hl6 (.inl rfl)).mono ?_
              rw [putE_closed, putL_closed]
              rintro e w4 ⟨rfl, v4, h4, m4⟩
              have hs4 : b ≤ w4.heap.size := Nat.le_trans hsz m4.size
              have HB4 := Lib.hid (HBW.out.trans ((HT.out.box.under m4 hsz).mono hwb))
              have H4 := Lib.hid (HT.out.moved h4 m4)
              clear h4 m4 HT HBW
              go_wp2_with fail
              go_roundw
              case rel => exact ⟨k + 1, true, _, _, L, by omega, rfl, rfl, by go_num, H4.out, HLR.out, by have := HLK.out; omega, HB4.out, hs4⟩
              case measure => simp [intOf]; omega
            | false =>
              go_wp2_with fail
              go_roundw
              case rel => exact ⟨k + 1, false, _, _, L, by omega, rfl, rfl, by go_num, HT.out, HLR.out, by have := HLK.out; omega, HBW.out, hsz⟩
              case measure => simp [intOf]; omega
          · have hne : ¬ (L.length : Int) = r := by omega
            have HNE := Lib.hid hne
            clear hne
            cases c with
            | true =>
              go_wp2_with fail
              refine (push_any HT.out.box hsz xn hl6 (.inl rfl)).mono ?_
              rw [putE_closed, putL_closed]
              rintro e w4 ⟨rfl, v4, h4, m4⟩
              have hs4 : b ≤ w4.heap.size := Nat.le_trans hsz m4.size
              have HB4 := Lib.hid (HBW.out.trans ((HT.out.box.under m4 hsz).mono hwb))
              have H4 := Lib.hid (HT.out.moved h4 m4)
              clear h4 m4 HT HBW
              go_wp2_with fail
              go_roundw
              case rel => exact ⟨k + 1, true, _, _, L, by omega, rfl, rfl, by go_num, H4.out, HLR.out, by have := HLK.out; omega, HB4.out, hs4⟩
              case measure => simp [intOf]; omega
            | false =>
              go_wp2_with fail
              refine (push_any HT.out.box hsz xn hl6 (.inr HNE.out)).mono ?_
              rw [putE_room HNE.out, putL_room HNE.out]
              rintro e w4 ⟨rfl, v4, h4, m4⟩
              have hs4 : b ≤ w4.heap.size := Nat.le_trans hsz m4.size
              have HB4 := Lib.hid (HBW.out.trans ((HT.out.box.under m4 hsz).mono hwb))
              have H4 := Lib.hid (HT.out.moved h4 m4)
              clear h4 m4 HT HBW
              obtain ⟨c0, c1⟩ := HC.out w4 HB4.out
              simp only at c0 c1
              have HC4 := Lib.hid (fun W (h : Below w4.heap.size w4 W) => (HC.out W (HB4.out.trans (h.mono HB4.out.size))).2)
              have HLX := Lib.hid (show L.length + 1 ≤ 300 by have := HLK.out; have := HLL.out; omega)
              have HRW := Lib.hid (fun W (h : Below w4.heap.size w4 W) => rowIs_in (H4.out.row.below h))
              have hki : (k : Int) < (l.length : Int) := by omega
              clear hl6
              go_wp2_with fail
              refine anyD_start (fun W => Below w4.heap.size w4 W) (fun _ => false) (by kernel_rfl) ?_
              refine anyD_take (i := 1) (v := .slice Aw L.length cw) rfl (by kernel_rfl) (by kernel_rfl) (by kernel_rfl) (fun _ _ _ h => h) (Or.inl ⟨by kernel_rfl, fun w => by go_simp⟩) ?_
              try simp only [Act.put, List.setIfInBounds_toArray, List.set_cons_zero, List.set_cons_succ, List.getElem_toArray, List.getElem_cons_zero, List.getElem_cons_succ]
              refine anyD_take (i := 3) (v := .slice (some ⟨g, o, none⟩) l.length cap) rfl (by kernel_rfl) (by kernel_rfl) (by kernel_rfl) (fun _ _ _ h => h) (Or.inl ⟨by kernel_rfl, fun w => by go_simp⟩) ?_
              try simp only [Act.put, List.setIfInBounds_toArray, List.set_cons_zero, List.set_cons_succ, List.getElem_toArray, List.getElem_cons_zero, List.getElem_cons_succ]
              refine anyD_take (i := 4) (v := .int .i64 (k : Int)) rfl (by kernel_rfl) (by kernel_rfl) (by kernel_rfl) (fun _ _ _ h => h) (Or.inl ⟨by kernel_rfl, fun w => by go_simp⟩) ?_
              try simp only [Act.put, List.setIfInBounds_toArray, List.set_cons_zero, List.set_cons_succ, List.getElem_toArray, List.getElem_cons_zero, List.getElem_cons_succ]
              refine anyD_take (i := 5) (v := .pointer (some ⟨g, o + k * 2, none⟩)) rfl (by kernel_rfl) (by kernel_rfl) (by kernel_rfl) (fun _ _ _ h => h) (Or.inl ⟨by kernel_rfl, fun w => by go_simp⟩) ?_
              try simp only [Act.put, List.setIfInBounds_toArray, List.set_cons_zero, List.set_cons_succ, List.getElem_toArray, List.getElem_cons_zero, List.getElem_cons_succ]
              refine anyD_take (i := 6) (v := .pointer (some ⟨g, o + k * 2 + 1, none⟩)) rfl (by kernel_rfl) (by kernel_rfl) (by kernel_rfl) (fun _ _ _ h => h) (Or.inl ⟨by kernel_rfl, fun w => by go_simp⟩) ?_
              try simp only [Act.put, List.setIfInBounds_toArray, List.set_cons_zero, List.set_cons_succ, List.getElem_toArray, List.getElem_cons_zero, List.getElem_cons_succ]
              refine anyD_load (i := 7) (v := .int .i64 xn) rfl (by kernel_rfl) (by kernel_rfl) (by kernel_rfl) (by kernel_rfl) (fun _ _ _ h => h) (Or.inl ⟨by kernel_rfl, fun w hS => by have hc := HC4.out w hS; go_simp⟩) (Below.refl _ _).drew ?_
              try simp only [Act.put, List.setIfInBounds_toArray, List.set_cons_zero, List.set_cons_succ, List.getElem_toArray, List.getElem_cons_zero, List.getElem_cons_succ]
              obtain ⟨iI, ki, kz0, kz1, kz2⟩ := info_parts Try.info3
              have KI := Lib.hid ki
              have KZ0 := Lib.hid kz0
              have KZ1 := Lib.hid kz1
              have KZ2 := Lib.hid kz2
              have hlx := HLX.out
              clear ki kz0 kz1 kz2 c0 c1
              refine anyD_two (i := 0) (j := 8) rfl rfl rfl rfl (by kernel_rfl) (fun K HK => ?pA) (fun K HK => ?pB)
              case pA =>
                go_simp
                have HB1 := Lib.hid (((Below.refl w4.heap.size w4).alloc (Nat.le_refl _) (.cells #[] 3)).drew)
                have HE1 : Hid ((w4.alloc (.cells #[] 3)).drew.ownsRow w4.heap.size 3 1 (.slice (some ⟨w4.heap.size, 0, none⟩) 0 0) 0 []) := Lib.hid (own_none w4)
                refine HK.out _ _ (fun _ _ => HB1.out) ?_
                clear HK K
                try simp only [Act.put, List.setIfInBounds_toArray, List.set_cons_zero, List.set_cons_succ, List.getElem_toArray, List.getElem_cons_zero, List.getElem_cons_succ]
                generalize (w4.alloc (.cells #[] 3)).drew = W1 at *
                refine anyD_two (i := 2) (j := 8) rfl rfl rfl rfl (by kernel_rfl) (fun K HK => ?pA1) (fun K HK => ?pA2)
                case pA1 =>
                  refine wp_append_row (w := w4) (W := W1) _ _ 30 rfl w4.heap.size 3 iI (.int .i64 0) 1 8 Try.underlying30 KI.out KZ0.out KZ1.out KZ2.out rfl (by decide) _ 0 [] rfl HE1.out _ L.length (intVals L) rfl (rowIs_in H4.out.row) HB1.out ?e3_1 ?e4_1 HB1.out.size (fun v2 W2 ho2 hg2 => ?e6_1)
                  case e3_1 => unfold maxLen; omega
                  case e4_1 => omega
                  have HB2 := Lib.hid (HB1.out.grown hg2 HB1.out.size (fun q hq => (HE1.out.lt q hq).1))
                  have HO2 : Hid (W2.ownsRow w4.heap.size 3 1 v2 L.length (intVals L)) := Lib.hid (by simpa using ho2)
                  refine HK.out _ _ (fun _ _ => HB2.out) ?_
                  clear HK K
                  try simp only [Act.put, List.setIfInBounds_toArray, List.set_cons_zero, List.set_cons_succ, List.getElem_toArray, List.getElem_cons_zero, List.getElem_cons_succ]
                  refine anyD_one (i := 8) rfl rfl (by kernel_rfl) (fun K HK => ?_)
                  go_simp
                  have HB3 := Lib.hid (HB2.out.alloc HB2.out.size (.cells #[.int .i64 xn] 3))
                  obtain ⟨g3, hg3⟩ : ∃ q, W2.heap.size = q := ⟨_, rfl⟩
                  have HN3 := Lib.hid (Blk.new W2 3 #[.int .i64 xn])
                  have HO3 := Lib.hid (own_below HO2.out ((Below.refl _ W2).alloc (Nat.le_refl _) (.cells #[.int .i64 xn] 3)))
                  refine HK.out _ _ (fun _ _ => HB3.out) ?_
                  clear HK K
                  try simp only [Act.put, List.setIfInBounds_toArray, List.set_cons_zero, List.set_cons_succ, List.getElem_toArray, List.getElem_cons_zero, List.getElem_cons_succ]
                  rw [hg3] at HN3 ⊢
                  generalize W2.alloc (.cells #[.int .i64 xn] 3) = W3 at *
                  refine anyD_one (i := 9) rfl rfl (by kernel_rfl) (fun K HK => ?_)
                  refine wp_append_at _ _ 30 rfl w4.heap.size 3 iI (.int .i64 0) 1 8 Try.underlying30 KI.out KZ0.out KZ1.out KZ2.out rfl (by decide) _ L.length (intVals L) rfl HO3.out ⟨g3, 0, none⟩ 1 1 [.int .i64 xn] rfl rfl ?e2_2 (int_one xn) ?e3_2 ?e4_2 HB3.out.size (fun v9 w9 ho9 hg9 _ => ?e6_2)
                  case e2_2 =>
                    intro j u hj
                    match j, hj with
                    | 0, hj => simp at hj; subst hj; exact HN3.out.cell 0
                    | j + 1, hj => simp at hj
                  case e3_2 => unfold maxLen; omega
                  case e4_2 => omega
                  have HB9 := Lib.hid (HB3.out.grown hg9 HB3.out.size (fun q hq => (HO3.out.lt q hq).1))
                  have hi9 : InAt w9 w4.heap.size 3 v9 (L ++ [xn]) := InAt.of_own (n := L.length + 1) (by rw [intVals_app]; exact ho9)
                  refine HK.out _ _ (fun _ _ => HB9.out) ?_
                  clear HK K
                  try simp only [Act.put, List.setIfInBounds_toArray, List.set_cons_zero, List.set_cons_succ, List.getElem_toArray, List.getElem_cons_zero, List.getElem_cons_succ]
                  obtain ⟨A9, c9, rfl⟩ := hi9.slice
                  have H9 := Lib.hid (H4.out.fresh HB9.out hi9 hs4)
                  simp only [List.length_append, List.length_singleton] at H9
                  have HBW9 := Lib.hid (HB4.out.trans (HB9.out.mono HB4.out.size))
                  have hs9 : b ≤ w9.heap.size := Nat.le_trans hs4 HB9.out.size
                  refine anyD_one (i := 10) rfl rfl (by kernel_rfl) (fun K HK => ?_)
                  go_simp
                  refine HK.out _ _ (fun _ h => h) ?_
                  clear HK K hi9 ho9 hg9
                  try simp only [Act.put, List.setIfInBounds_toArray, List.set_cons_zero, List.set_cons_succ, List.getElem_toArray, List.getElem_cons_zero, List.getElem_cons_succ]
                  refine anyD_done (by kernel_rfl) ?_
                  go_wp2_with fail
                  go_roundw
                  case rel => exact ⟨k + 1, false, _, _, L ++ [xn], by omega, rfl, rfl, by go_num, H9.out, by have := HLR.out; have := HNE.out; simp only [List.length_append, List.length_singleton]; omega, by have := HLK.out; simp only [List.length_append, List.length_singleton]; omega, HBW9.out, hs9⟩
                  case measure => simp [intOf]; omega
                case pA2 =>
                  go_simp
                  have HB2 := Lib.hid (HB1.out.alloc HB1.out.size (.cells #[.int .i64 xn] 3))
                  obtain ⟨g2, hg2⟩ : ∃ q, W1.heap.size = q := ⟨_, rfl⟩
                  have HN2 := Lib.hid (Blk.new W1 3 #[.int .i64 xn])
                  have HE2 := Lib.hid (own_below HE1.out ((Below.refl _ W1).alloc (Nat.le_refl _) (.cells #[.int .i64 xn] 3)))
                  have HX2 : Hid (¬ g2 = w4.heap.size) := Lib.hid (by have := (HE1.out.lt w4.heap.size rfl).2; omega)
                  refine HK.out _ _ (fun _ _ => HB2.out) ?_
                  clear HK K
                  try simp only [Act.put, List.setIfInBounds_toArray, List.set_cons_zero, List.set_cons_succ, List.getElem_toArray, List.getElem_cons_zero, List.getElem_cons_succ]
                  rw [hg2] at HN2 ⊢
                  generalize W1.alloc (.cells #[.int .i64 xn] 3) = W2 at *
                  refine anyD_one (i := 2) rfl rfl (by kernel_rfl) (fun K HK => ?_)
                  refine wp_append_row (w := w4) (W := W2) _ _ 30 rfl w4.heap.size 3 iI (.int .i64 0) 1 8 Try.underlying30 KI.out KZ0.out KZ1.out KZ2.out rfl (by decide) _ 0 [] rfl HE2.out _ L.length (intVals L) rfl (rowIs_in H4.out.row) HB2.out ?e3_3 ?e4_3 HB2.out.size (fun v3 W3 ho3 hg3 => ?e6_3)
                  case e3_3 => unfold maxLen; omega
                  case e4_3 => omega
                  have HB3 := Lib.hid (HB2.out.grown hg3 HB2.out.size (fun q hq => (HE2.out.lt q hq).1))
                  have HO3 : Hid (W3.ownsRow w4.heap.size 3 1 v3 L.length (intVals L)) := Lib.hid (by simpa using ho3)
                  have HN3 := Lib.hid (HN2.out.grown hg3 (fun e => HX2.out (Option.some.inj e)))
                  refine HK.out _ _ (fun _ _ => HB3.out) ?_
                  clear HK K
                  try simp only [Act.put, List.setIfInBounds_toArray, List.set_cons_zero, List.set_cons_succ, List.getElem_toArray, List.getElem_cons_zero, List.getElem_cons_succ]
                  refine anyD_one (i := 9) rfl rfl (by kernel_rfl) (fun K HK => ?_)
                  refine wp_append_at _ _ 30 rfl w4.heap.size 3 iI (.int .i64 0) 1 8 Try.underlying30 KI.out KZ0.out KZ1.out KZ2.out rfl (by decide) _ L.length (intVals L) rfl HO3.out ⟨g2, 0, none⟩ 1 1 [.int .i64 xn] rfl rfl ?e2_4 (int_one xn) ?e3_4 ?e4_4 HB3.out.size (fun v9 w9 ho9 hg9 _ => ?e6_4)
                  case e2_4 =>
                    intro j u hj
                    match j, hj with
                    | 0, hj => simp at hj; subst hj; exact HN3.out.cell 0
                    | j + 1, hj => simp at hj
                  case e3_4 => unfold maxLen; omega
                  case e4_4 => omega
                  have HB9 := Lib.hid (HB3.out.grown hg9 HB3.out.size (fun q hq => (HO3.out.lt q hq).1))
                  have hi9 : InAt w9 w4.heap.size 3 v9 (L ++ [xn]) := InAt.of_own (n := L.length + 1) (by rw [intVals_app]; exact ho9)
                  refine HK.out _ _ (fun _ _ => HB9.out) ?_
                  clear HK K
                  try simp only [Act.put, List.setIfInBounds_toArray, List.set_cons_zero, List.set_cons_succ, List.getElem_toArray, List.getElem_cons_zero, List.getElem_cons_succ]
                  obtain ⟨A9, c9, rfl⟩ := hi9.slice
                  have H9 := Lib.hid (H4.out.fresh HB9.out hi9 hs4)
                  simp only [List.length_append, List.length_singleton] at H9
                  have HBW9 := Lib.hid (HB4.out.trans (HB9.out.mono HB4.out.size))
                  have hs9 : b ≤ w9.heap.size := Nat.le_trans hs4 HB9.out.size
                  refine anyD_one (i := 10) rfl rfl (by kernel_rfl) (fun K HK => ?_)
                  go_simp
                  refine HK.out _ _ (fun _ h => h) ?_
                  clear HK K hi9 ho9 hg9
                  try simp only [Act.put, List.setIfInBounds_toArray, List.set_cons_zero, List.set_cons_succ, List.getElem_toArray, List.getElem_cons_zero, List.getElem_cons_succ]
                  refine anyD_done (by kernel_rfl) ?_
                  go_wp2_with fail
                  go_roundw
                  case rel => exact ⟨k + 1, false, _, _, L ++ [xn], by omega, rfl, rfl, by go_num, H9.out, by have := HLR.out; have := HNE.out; simp only [List.length_append, List.length_singleton]; omega, by have := HLK.out; simp only [List.length_append, List.length_singleton]; omega, HBW9.out, hs9⟩
                  case measure => simp [intOf]; omega
              case pB =>
                go_simp
                have HB1 := Lib.hid (((Below.refl w4.heap.size w4).alloc (Nat.le_refl _) (.cells #[.int .i64 xn] 3)).drew)
                have HN1 : Hid (Blk (w4.alloc (.cells #[.int .i64 xn] 3)).drew w4.heap.size 3 #[.int .i64 xn]) := Lib.hid (Blk.new w4 3 #[.int .i64 xn])
                refine HK.out _ _ (fun _ _ => HB1.out) ?_
                clear HK K
                try simp only [Act.put, List.setIfInBounds_toArray, List.set_cons_zero, List.set_cons_succ, List.getElem_toArray, List.getElem_cons_zero, List.getElem_cons_succ]
                generalize (w4.alloc (.cells #[.int .i64 xn] 3)).drew = W1 at *
                refine anyD_one (i := 0) rfl rfl (by kernel_rfl) (fun K HK => ?_)
                go_simp
                have HB2 := Lib.hid (HB1.out.alloc HB1.out.size (.cells #[] 3))
                have HE2 := Lib.hid (own_base (own_none W1) HB1.out.size)
                have HN2 := Lib.hid ((Blk.alloc (HN1.out) (.cells #[] 3)))
                refine HK.out _ _ (fun _ _ => HB2.out) ?_
                clear HK K
                try simp only [Act.put, List.setIfInBounds_toArray, List.set_cons_zero, List.set_cons_succ, List.getElem_toArray, List.getElem_cons_zero, List.getElem_cons_succ]
                have HX2 : Hid (¬ w4.heap.size = W1.heap.size) := Lib.hid (by have := HN1.out.lt; omega)
                generalize hq2 : W1.heap.size = q2 at *
                generalize W1.alloc (.cells #[] 3) = W2 at *
                refine anyD_one (i := 2) rfl rfl (by kernel_rfl) (fun K HK => ?_)
                refine wp_append_row (w := w4) (W := W2) _ _ 30 rfl w4.heap.size 3 iI (.int .i64 0) 1 8 Try.underlying30 KI.out KZ0.out KZ1.out KZ2.out rfl (by decide) _ 0 [] rfl HE2.out _ L.length (intVals L) rfl (rowIs_in H4.out.row) HB2.out ?e3_5 ?e4_5 HB2.out.size (fun v3 W3 ho3 hg3 => ?e6_5)
                case e3_5 => unfold maxLen; omega
                case e4_5 => omega
                have HB3 := Lib.hid (HB2.out.grown hg3 HB2.out.size (fun q hq => (HE2.out.lt q hq).1))
                have HO3 : Hid (W3.ownsRow w4.heap.size 3 1 v3 L.length (intVals L)) := Lib.hid (by simpa using ho3)
                have HN3 := Lib.hid (HN2.out.grown hg3 (fun e => HX2.out (Option.some.inj e)))
                refine HK.out _ _ (fun _ _ => HB3.out) ?_
                clear HK K
                try simp only [Act.put, List.setIfInBounds_toArray, List.set_cons_zero, List.set_cons_succ, List.getElem_toArray, List.getElem_cons_zero, List.getElem_cons_succ]
                refine anyD_one (i := 9) rfl rfl (by kernel_rfl) (fun K HK => ?_)
                refine wp_append_at _ _ 30 rfl w4.heap.size 3 iI (.int .i64 0) 1 8 Try.underlying30 KI.out KZ0.out KZ1.out KZ2.out rfl (by decide) _ L.length (intVals L) rfl HO3.out ⟨w4.heap.size, 0, none⟩ 1 1 [.int .i64 xn] rfl rfl ?e2_6 (int_one xn) ?e3_6 ?e4_6 HB3.out.size (fun v9 w9 ho9 hg9 _ => ?e6_6)
                case e2_6 =>
                  intro j u hj
                  match j, hj with
                  | 0, hj => simp at hj; subst hj; exact HN3.out.cell 0
                  | j + 1, hj => simp at hj
                case e3_6 => unfold maxLen; omega
                case e4_6 => omega
                have HB9 := Lib.hid (HB3.out.grown hg9 HB3.out.size (fun q hq => (HO3.out.lt q hq).1))
                have hi9 : InAt w9 w4.heap.size 3 v9 (L ++ [xn]) := InAt.of_own (n := L.length + 1) (by rw [intVals_app]; exact ho9)
                refine HK.out _ _ (fun _ _ => HB9.out) ?_
                clear HK K
                try simp only [Act.put, List.setIfInBounds_toArray, List.set_cons_zero, List.set_cons_succ, List.getElem_toArray, List.getElem_cons_zero, List.getElem_cons_succ]
                obtain ⟨A9, c9, rfl⟩ := hi9.slice
                have H9 := Lib.hid (H4.out.fresh HB9.out hi9 hs4)
                simp only [List.length_append, List.length_singleton] at H9
                have HBW9 := Lib.hid (HB4.out.trans (HB9.out.mono HB4.out.size))
                have hs9 : b ≤ w9.heap.size := Nat.le_trans hs4 HB9.out.size
                refine anyD_one (i := 10) rfl rfl (by kernel_rfl) (fun K HK => ?_)
                go_simp
                refine HK.out _ _ (fun _ h => h) ?_
                clear HK K hi9 ho9 hg9
                try simp only [Act.put, List.setIfInBounds_toArray, List.set_cons_zero, List.set_cons_succ, List.getElem_toArray, List.getElem_cons_zero, List.getElem_cons_succ]
                refine anyD_done (by kernel_rfl) ?_
                go_wp2_with fail
                go_roundw
                case rel => exact ⟨k + 1, false, _, _, L ++ [xn], by omega, rfl, rfl, by go_num, H9.out, by have := HLR.out; have := HNE.out; simp only [List.length_append, List.length_singleton]; omega, by have := HLK.out; simp only [List.length_append, List.length_singleton]; omega, HBW9.out, hs9⟩
                case measure => simp [intOf]; omega
      · as_aux_lemma =>
          cases L with
          | nil =>
            go_wp2_with fail
            refine (try_none HT.out.box hsz).mono ?_
            rintro e w4 ⟨rfl, v4, h4, m4⟩
            have hs4 : b ≤ w4.heap.size := Nat.le_trans hsz m4.size
            have HB4 := Lib.hid (HBW.out.trans ((HT.out.box.under m4 hsz).mono hwb))
            have H4 := Lib.hid (HT.out.moved h4 m4)
            clear h4 m4 HT HBW
            go_wp2_with fail
            go_roundw
            case rel => exact ⟨k + 1, c, _, _, [], by omega, rfl, rfl, by go_num, H4.out, HLR.out, by have := HLK.out; omega, HB4.out, hs4⟩
            case measure => simp [intOf]; omega
          | cons x L =>
            obtain ⟨g9, o9, rfl⟩ : ∃ g9 o9, Aw = some ⟨g9, o9, none⟩ := by
              rcases HT.out.row with ⟨_, h0⟩ | ⟨g9, o9, cap9, cur9, hv9, _⟩
              · cases h0
              · injection hv9 with e1
                exact ⟨g9, o9, e1⟩
            go_wp2_with fail
            refine (try_some HT.out.box hsz).mono ?_
            rintro e w4 ⟨rfl, v4, h4, m4⟩
            have hs4 : b ≤ w4.heap.size := Nat.le_trans hsz m4.size
            have HB4 := Lib.hid (HBW.out.trans ((HT.out.box.under m4 hsz).mono hwb))
            have H4 := Lib.hid (HT.out.moved h4 m4)
            clear h4 m4 HT HBW
            obtain ⟨d0, hc9, htl⟩ := InAt.tail H4.out.row
            have hn9 : L.length + 1 ≤ cw := by
              rcases H4.out.row with ⟨_, h0⟩ | ⟨_, _, _, _, hv9, _, _, hn9, _⟩
              · cases h0
              · injection hv9 with _ _ e3
                rw [e3]
                exact hn9
            have HTL : Hid (Two w4 b r c v4 L (.slice (some ⟨g9, if cw = 1 then o9 else o9 + 1, none⟩) L.length (cw - 1)) L) := Lib.hid ⟨H4.out.box, htl, fun q hq => H4.out.apart q hq⟩
            have hxx : (x != x) = false := by simp
            have HL9 := Lib.hid (show (L.length : Int) ≤ r ∧ L.length ≤ k by have h1 := HLR.out; have h2 := HLK.out; simp only [List.length_cons] at h1 h2; omega)
            have hp9 : 0 < (L.length : Int) + 1 := by omega
            have hp8 : (0 : Int) < ((L.length + 1 : Nat) : Int) := by omega
            clear htl H4
            obtain ⟨q9, hq9⟩ : ∃ q, L.length = q := ⟨_, rfl⟩
            rw [hq9] at HTL hn9 hp9 hp8
            have HQ9 := Lib.hid hq9
            clear hq9
            by_cases h1 : cw = 1
            · subst h1
              obtain rfl : q9 = 0 := by omega
              rw [if_pos rfl] at HTL
              go_wp2_with fail
              go_roundw
              case rel => exact ⟨k + 1, c, v4, _, L, by omega, rfl, rfl, by go_num, by rw [HQ9.out]; exact HTL.out, HL9.out.1, by have := HL9.out.2; omega, HB4.out, hs4⟩
              case measure => simp [intOf]; omega
            · rw [if_neg h1] at HTL
              obtain ⟨c9, rfl⟩ : ∃ c9, cw = c9 + 2 := ⟨cw - 2, by omega⟩
              go_wp2_with fail
              go_roundw
              case rel => exact ⟨k + 1, c, v4, _, L, by omega, rfl, rfl, by go_num, by rw [HQ9.out]; exact HTL.out, HL9.out.1, by have := HL9.out.2; omega, HB4.out, hs4⟩
              case measure => simp [intOf]; omega
      · as_aux_lemma =>
          cases L with
          | nil =>
            cases c with
            | true =>
              go_wp2_with fail
              refine (try_none HT.out.box hsz).mono ?_
              rintro e w4 ⟨rfl, v4, h4, m4⟩
              have hs4 : b ≤ w4.heap.size := Nat.le_trans hsz m4.size
              have HB4 := Lib.hid (HBW.out.trans ((HT.out.box.under m4 hsz).mono hwb))
              have H4 := Lib.hid (HT.out.moved h4 m4)
              clear h4 m4 HT HBW
              go_wp2_with fail
              refine (take_none H4.out.box hs4).mono ?_
              rintro e w5 ⟨rfl, v5, h5, m5⟩
              have hs5 : b ≤ w5.heap.size := Nat.le_trans hs4 m5.size
              have HB5 := Lib.hid (HB4.out.trans ((H4.out.box.under m5 hs4).mono hwb))
              have H5 := Lib.hid (H4.out.moved h5 m5)
              clear h5 m5 H4 HB4
              go_wp2_with fail
              go_roundw
              case rel => exact ⟨k + 1, true, _, _, [], by omega, rfl, rfl, by go_num, H5.out, HLR.out, by have := HLK.out; omega, HB5.out, hs5⟩
              case measure => simp [intOf]; omega
            | false =>
              go_wp2_with fail
              go_roundw
              case rel => exact ⟨k + 1, false, _, _, [], by omega, rfl, rfl, by go_num, HT.out, HLR.out, by have := HLK.out; omega, HBW.out, hsz⟩
              case measure => simp [intOf]; omega
          | cons x L =>
            obtain ⟨g9, o9, rfl⟩ : ∃ g9 o9, Aw = some ⟨g9, o9, none⟩ := by
              rcases HT.out.row with ⟨_, h0⟩ | ⟨g9, o9, cap9, cur9, hv9, _⟩
              · cases h0
              · injection hv9 with e1
                exact ⟨g9, o9, e1⟩
            have hl0 : ((L.length : Int) + 1 == 0) = false := by simp; omega
            go_wp2_with fail
            refine (try_some HT.out.box hsz).mono ?_
            rintro e w4 ⟨rfl, v4, h4, m4⟩
            have hs4 : b ≤ w4.heap.size := Nat.le_trans hsz m4.size
            have HB4 := Lib.hid (HBW.out.trans ((HT.out.box.under m4 hsz).mono hwb))
            have H4 := Lib.hid (HT.out.moved h4 m4)
            clear h4 m4 HT HBW
            obtain ⟨d0, hc9, htl⟩ := InAt.tail H4.out.row
            have hn9 : L.length + 1 ≤ cw := by
              rcases H4.out.row with ⟨_, h0⟩ | ⟨_, _, _, _, hv9, _, _, hn9, _⟩
              · cases h0
              · injection hv9 with _ _ e3
                rw [e3]
                exact hn9
            have HTL : Hid (Two w4 b r c v4 L (.slice (some ⟨g9, if cw = 1 then o9 else o9 + 1, none⟩) L.length (cw - 1)) L) := Lib.hid ⟨H4.out.box, htl, fun q hq => H4.out.apart q hq⟩
            have hxx : (x != x) = false := by simp
            have HL9 := Lib.hid (show (L.length : Int) ≤ r ∧ L.length ≤ k by have h1 := HLR.out; have h2 := HLK.out; simp only [List.length_cons] at h1 h2; omega)
            have hp9 : 0 < (L.length : Int) + 1 := by omega
            have hp8 : (0 : Int) < ((L.length + 1 : Nat) : Int) := by omega
            clear htl H4
            obtain ⟨q9, hq9⟩ : ∃ q, L.length = q := ⟨_, rfl⟩
            rw [hq9] at HTL hn9 hp9 hp8
            have HQ9 := Lib.hid hq9
            clear hq9
            by_cases h1 : cw = 1
            · subst h1
              obtain rfl : q9 = 0 := by omega
              rw [if_pos rfl] at HTL
              go_wp2_with fail
              go_roundw
              case rel => exact ⟨k + 1, c, v4, _, L, by omega, rfl, rfl, by go_num, by rw [HQ9.out]; exact HTL.out, HL9.out.1, by have := HL9.out.2; omega, HB4.out, hs4⟩
              case measure => simp [intOf]; omega
            · rw [if_neg h1] at HTL
              obtain ⟨c9, rfl⟩ : ∃ c9, cw = c9 + 2 := ⟨cw - 2, by omega⟩
              go_wp2_with fail
              go_roundw
              case rel => exact ⟨k + 1, c, v4, _, L, by omega, rfl, rfl, by go_num, by rw [HQ9.out]; exact HTL.out, HL9.out.1, by have := HL9.out.2; omega, HB4.out, hs4⟩
              case measure => simp [intOf]; omega
      · as_aux_lemma =>
          go_wp2_with fail
          refine (len_any HT.out.box hsz).mono ?_
          rintro e w4 ⟨rfl, v4, h4, m4⟩
          have hs4 : b ≤ w4.heap.size := Nat.le_trans hsz m4.size
          have HB4 := Lib.hid (HBW.out.trans ((HT.out.box.under m4 hsz).mono hwb))
          have H4 := Lib.hid (HT.out.moved h4 m4)
          clear h4 m4 HT HBW
          have hxx : ((L.length : Int) != (L.length : Int)) = false := by simp
          go_wp2_with fail
          go_roundw
          case rel => exact ⟨k + 1, c, _, _, L, by omega, rfl, rfl, by go_num, H4.out, HLR.out, by have := HLK.out; omega, HB4.out, hs4⟩
          case measure => simp [intOf]; omega
      · as_aux_lemma =>
          go_wp2_with fail
          refine (close_any HT.out.box hsz).mono ?_
          rintro e w4 ⟨rfl, v4, h4, m4⟩
          have hs4 : b ≤ w4.heap.size := Nat.le_trans hsz m4.size
          have HB4 := Lib.hid (HBW.out.trans ((HT.out.box.under m4 hsz).mono hwb))
          have H4 := Lib.hid (HT.out.moved h4 m4)
          clear h4 m4 HT HBW
          go_wp2_with fail
          go_roundw
          case rel => exact ⟨k + 1, true, _, _, L, by omega, rfl, rfl, by go_num, H4.out, HLR.out, by have := HLK.out; omega, HB4.out, hs4⟩
          case measure => simp [intOf]; omega
    · obtain rfl : k = l.length := by omega
      go_wp2_with fail
      refine (len_any HT.out.box hsz).mono ?_
      rintro e w4 ⟨rfl, v4, h4, m4⟩
      have HB4 := Lib.hid (HBW.out.trans ((HT.out.box.under m4 hsz).mono hwb))
      clear h4 m4 HT HBW
      have hxx : ((L.length : Int) == (L.length : Int)) = true := by simp
      go_wp2_with fail
      go_ret
      exact ⟨rfl, HB4.out⟩
end Go.Proofs.Ytmolegodfepmnaa
