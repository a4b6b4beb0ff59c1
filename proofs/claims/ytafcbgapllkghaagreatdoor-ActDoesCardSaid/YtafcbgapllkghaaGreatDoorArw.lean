/- Appends of rows, nil or not, at an operation that is guarded or not; rows of what goes out as cells. No function of the program is called in this text. -/
import Derived.Test.YtafcbgapllkghaaGreatDoorAdg
namespace Go.Proofs.YtafcbgapllkghaaGreatDoor
open Go.ChangeShapes Go.WideShapes Go.ChangeAt Go.RowKit
set_option linter.unusedVariables false

/-- an append of a row of cells, nil or not -/
theorem wp_append_row {P : Program} {w W : World} {o : Oper} {a : Act} {K : Act → World → Prop} {Q : Exit → Act → World → Prop} (s x : Operand) (t : TypeId)
    (ho : o.op = .call { callee := .builtin .append, args := #[s, x], argTypes := #[t, t] })
    (base : Nat) (e : TypeId) (i : TypeInfo) (z : Value) (size bytes : Nat) (ht : P.underlying t = some (.slice e)) (hi : P.info? e = some i) (hz : i.zero = some z)
    (hsize : i.size = size) (hby : i.bytes = bytes) (hzs : z.cells.size = size) (hsz : 0 < size)
    (v : Value) (n : Nat) (xs : List Value) (hs : a.eval s = v) (hown : W.ownsRow base e size v n xs)
    (u : Value) (m : Nat) (news : List Value) (hx : a.eval x = u) (hr : RowIs w size u m news) (hb : Below w.heap.size w W)
    (h63 : n + m ≤ maxLen) (hbytes : (n + m) * bytes ≤ 140737488355328) (hbase : base ≤ W.heap.size)
    (h : ∀ v' w', w'.ownsRow base e size v' (n + m) (xs ++ news) → W.grownBy w' v.ownBlock → K (a.put o.dst v') w') : o.wp P a W K Q := by
  obtain ⟨hn, ⟨c, rfl, rfl⟩ | ⟨ad, cap, rfl, hc, h1⟩⟩ := hr
  · obtain rfl : news = [] := List.eq_nil_of_length_eq_zero (by simpa using hn)
    have hrun : (Builtin.append_ #[t, t] o.type #[v, .slice none 0 c]).run P W = .ok v W := by
      rcases hown.2 with ⟨rfl, rfl⟩ | ⟨g, cap, cur, rfl, _, _, hnc, _⟩
      · simp [Builtin.append_, run_underlying ht, sizeOf, typeInfo, hi, Builtin.lenOf, Builtin.firstCells, go_sem]
      · simp [Builtin.append_, run_underlying ht, sizeOf, typeInfo, hi, Builtin.lenOf, Builtin.firstCells, hnc, storeCells, go_sem]
    unfold Oper.wp execOp
    simp only [ho, resolve, invoke, builtin, Sem.run_bind, Sem.run_pure, Result.andThen_ok, List.map_toArray, List.map_cons, List.map_nil, hs, hx, hrun]
    exact h v W (by simpa using hown) ⟨rfl, rfl, rfl, Nat.le_refl _, fun _ _ _ => rfl⟩
  · exact wp_append_at s x t ho base e i z size bytes ht hi hz hsize hby hzs hsz v n xs hs hown ad m cap news hx hn (fun j u hj => (hb.cell (Lib.lt_of_cell (hc j u hj))).trans (hc j u hj)) h1 h63 hbytes hbase (fun v' w' a1 a2 _ => h v' w' a1 a2)
theorem wpList_append_row {P : Program} {w W : World} {ops : Array Oper} {rest : List Oper} {o : Oper} {a : Act} {Q : Exit → Act → World → Prop} (hw : Region.wanted o (yielded ops a.tmps) = true) (s x : Operand) (t : TypeId)
    (ho : o.op = .call { callee := .builtin .append, args := #[s, x], argTypes := #[t, t] })
    (base : Nat) (e : TypeId) (i : TypeInfo) (z : Value) (size bytes : Nat) (ht : P.underlying t = some (.slice e)) (hi : P.info? e = some i) (hz : i.zero = some z)
    (hsize : i.size = size) (hby : i.bytes = bytes) (hzs : z.cells.size = size) (hsz : 0 < size)
    (v : Value) (n : Nat) (xs : List Value) (hs : a.eval s = v) (hown : W.ownsRow base e size v n xs)
    (u : Value) (m : Nat) (news : List Value) (hx : a.eval x = u) (hr : RowIs w size u m news) (hb : Below w.heap.size w W)
    (h63 : n + m ≤ maxLen) (hbytes : (n + m) * bytes ≤ 140737488355328) (hbase : base ≤ W.heap.size)
    (h : ∀ v' w', w'.ownsRow base e size v' (n + m) (xs ++ news) → W.grownBy w' v.ownBlock → wpList P ops Q rest (a.put o.dst v') w') : wpList P ops Q (o :: rest) a W :=
  BigFrame.wpList_want hw fun K hK => wp_append_row s x t ho base e i z size bytes ht hi hz hsize hby hzs hsz v n xs hs hown u m news hx hr hb h63 hbytes hbase (fun v' w' h1 h2 => hK _ _ (h v' w' h1 h2))
/-- what goes out as cells to be copied -/
theorem rowIs_outs {w : World} {v : Value} {L : List Ou} (h : OutsAt w v L) : RowIs w 4 v L.length (L.flatMap ouCells) :=
  rowIs_of ouCells_len (by decide) h (fun b o x hp j u hu => by
    obtain ⟨p0, p1, p2, p3⟩ := hp
    match j, hu with
    | 0, hu => simp [ouCells] at hu; subst hu; exact p0
    | 1, hu => simp [ouCells] at hu; subst hu; exact p1
    | 2, hu => simp [ouCells] at hu; subst hu; exact p2
    | 3, hu => simp [ouCells] at hu; subst hu; exact p3
    | j + 4, hu => simp [ouCells] at hu) (fun x _ u hu => ou_one x u hu)
theorem doL_fit : ∀ (l : List Ac) (d : Ds), d.Fit → (doL l d).Fit
  | [], d, h => h
  | a :: l, d, h => by
    cases hd : doA a d with
    | none => rw [doL_none hd]; exact h
    | some d' => rw [doL_some hd]; exact doL_fit l d' (doA_fit h hd)
/-- what Do tells of so many actions and variables is not too long -/
theorem doL_short {l : List Ac} {env : List Int} (hl : l.length ≤ 40) (he : env.length ≤ 40) : (doL l ⟨env, [], []⟩).env.length ≤ 1000 ∧ (doL l ⟨env, [], []⟩).out.length ≤ 100 ∧ (doL l ⟨env, [], []⟩).ins.length ≤ 100 := by
  have h1 := doL_env l ⟨env, [], []⟩
  have h2 := doL_out l ⟨env, [], []⟩
  have h3 := doL_ins l ⟨env, [], []⟩
  simp only [List.length_nil] at h1 h2 h3
  omega
end Go.Proofs.YtafcbgapllkghaaGreatDoor
