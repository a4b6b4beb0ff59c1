/- What holds of worlds and values, whatever function is called: blocks, slices of tokens, what the package-level variables hold. -/
import Derived.Test.YtafcbgapllkghaaGreatDoorRows
import Derived.Test.YtafcbgapllkghaaGreatDoorPpure
import Derived.Below
import Derived.BigQuiet
import Derived.Deep.QuietTactic
import Derived.Laws.IdiomStrings
import Derived.Laws.MakeOwn
import Derived.Laws.OwnMore
import Derived.Lib.Hide
import Derived.Lib.IndexBytes
import Derived.Lib.ItoaNum
import Derived.Lib.Join
import Derived.Lib.LaidTab
import Derived.Lib.ParseIntB
import Derived.Lib.Strings
import Derived.Maps.AppendAt
import Derived.OpenShut
import Derived.Outline
import Derived.OwnWalk
import Derived.ProofKit
import Derived.WalkKit
import Derived.WalkSmall
import Derived.WalkSpells
import Derived.Sort.Grow
namespace Go.Proofs.YtafcbgapllkghaaGreatDoor
open Go.ChangeShapes Go.WideShapes Go.ChangeAt Go.RowKit
set_option linter.unusedVariables false

theorem ret_bool {a b : Bool} (h : a = b) : Ending.returned (.bool a) = .returned (.bool b) := by rw [h]
theorem ret_int {k : IntKind} {a b : Int} (h : a = b) : Ending.returned (.int k a) = .returned (.int k b) := by rw [h]
def bytes (l : List UInt8) : ByteArray := ⟨l.toArray⟩
def textVals : List Value := texts.map fun l => .string (bytes l)
/-- what the package-level variables hold that the calls read -/
def Laid (w : World) : Prop :=
  6 ≤ w.heap.size ∧ w.var? Tryz.prog "spinet/lex.texts" = some textVals.toArray ∧ True
    ∧ (∃ tp p, w.var? Tryz.prog "strconv.ErrRange" = some #[.iface tp p]) ∧ Lib.TabIs Tryz.prog w "internal/strconv.uint64pow10" .u64 Lib.pow10Tab
theorem g1 : Tryz.prog.globalNamed "spinet/lex.texts" = some 0 := by kernel_rfl
theorem g2 : Tryz.prog.globalNamed "internal/strconv.uint64pow10" = some 3 := by kernel_rfl
theorem g5 : Tryz.prog.globalNamed "strconv.ErrRange" = some 2 := by kernel_rfl
theorem Laid.below {B : Nat} {w w' : World} (h : Laid w) (hb : Below B w w') (hB : 6 ≤ B) : Laid w' := by
  obtain ⟨h0, h1, h2, ⟨tp, p, h3⟩, h4⟩ := h
  refine ⟨Nat.le_trans h0 hb.size, var?_below hb g1 (by omega) h1, h2, ⟨tp, p, var?_below hb g5 (by omega) h3⟩, ?_⟩
  unfold Lib.TabIs at h4 ⊢
  exact var?_below hb g2 (by omega) h4
theorem Laid.after {w w' : World} (h : Laid w) (hb : Below w.heap.size w w') : Laid w' := h.below hb h.1
theorem Laid.text {w : World} (h : Laid w) (k : Nat) (hk : k < 19) : w.cell? ⟨0, k, none⟩ = some (.string (bytes (texts.getD k []))) := by
  rw [World.var?_cell g1 h.2.1 k]
  have : k < textVals.length := hk
  simp [textVals, List.getD, List.getElem?_eq_getElem (show k < texts.length from hk)]
def zeroTok : Value := .agg #[.int .i64 0, .int .i64 0, .int .i64 0]
/-- a token, where it ends, and true; or zero values and false -/
def tokVal : Option (Tk × Nat) → Value
  | none => .tuple #[.agg #[.int .i64 0, .int .i64 0, .int .i64 0], .int .i64 0, .bool false]
  | some (t, e) => .tuple #[.agg #[.int .i64 t.1, .int .i64 t.2.1, .int .i64 t.2.2], .int .i64 e, .bool true]
theorem same_bytes (l : List UInt8) (s : ByteArray) (a b : Nat) : ((bytes l).toList == (s.extract a b).toList) = decide (l = mid s.data.toList a b) := by
  rw [Lib.toList_data, Lib.extract_toList, Bool.eq_iff_iff, beq_iff_eq]
  exact (decide_eq_true_iff (p := l = mid s.data.toList a b)).symm
theorem below_drewN {B : Nat} {a w : World} (h : Below B a w) (n : Nat) : Below B a (w.drewN n) := ⟨h.os, h.tape, h.output, h.size, h.block⟩
theorem bcell {W w1 : World} (hb : Below W.heap.size W w1) : (∀ b o, b < W.heap.size → w1.cell? ⟨b, o, none⟩ = W.cell? ⟨b, o, none⟩) ∧ (∀ b o, b < W.heap.size → w1.frozen? ⟨b, o, none⟩ = W.frozen? ⟨b, o, none⟩) :=
  ⟨fun b o h => hb.cell (p := ⟨b, o, none⟩) h, fun b o h => hb.frozen (p := ⟨b, o, none⟩) h⟩
theorem neq_nil_nil (w : World) : (binOp .neq 48 .nilIface .nilIface).run Tryz.prog w = .ok (.bool false) w := by kernel_rfl
def Blk (w : World) (g : Nat) (t : TypeId) (cs : Array Value) : Prop := w.heap[g]? = some (.cells cs t (0, 0))
theorem Blk.cell {w : World} {g : Nat} {t : TypeId} {cs : Array Value} (h : Blk w g t cs) (i : Nat) : w.cell? ⟨g, i, none⟩ = cs[i]? := cell_of_row w g i cs t (0, 0) h
theorem Blk.frozen {w : World} {g : Nat} {t : TypeId} {cs : Array Value} (h : Blk w g t cs) (i : Nat) : w.frozen? ⟨g, i, none⟩ = false := by
  unfold Blk at h
  simp [World.frozen?, h]
theorem Blk.new (w : World) (t : TypeId) (cs : Array Value) : Blk (w.alloc (.cells cs t)) w.heap.size t cs := heap_alloc_new w _
theorem Blk.below {w w' : World} {g : Nat} {t : TypeId} {cs : Array Value} {B : Nat} (h : Blk w g t cs) (hb : Below B w w') (hg : g < B) : Blk w' g t cs := (hb.block g hg).trans h
theorem Blk.drewN {w : World} {g : Nat} {t : TypeId} {cs : Array Value} (h : Blk w g t cs) (n : Nat) : Blk (w.drewN n) g t cs := h
theorem Blk.set_ {w : World} {g : Nat} {t : TypeId} {cs : Array Value} (h : Blk w g t cs) (i : Nat) (u : Value) : Blk (w.setCell ⟨g, i, none⟩ u) g t (cs.setIfInBounds i u) := by
  unfold Blk at h ⊢
  simp [World.setCell, Array.getElem?_modify, h]
/-- three stores into a block of three cells -/
theorem Blk.set3 {w : World} {g : Nat} {t : TypeId} {x y z : Value} (h : Blk w g t #[x, y, z]) (a b c : Value) :
    Blk (((w.setCell ⟨g, 0, none⟩ a).setCell ⟨g, 1, none⟩ b).setCell ⟨g, 2, none⟩ c) g t #[a, b, c] := ((h.set_ 0 a).set_ 1 b).set_ 2 c
theorem Blk.lt {w : World} {g : Nat} {t : TypeId} {cs : Array Value} (h : Blk w g t cs) : g < w.heap.size := by
  rcases Nat.lt_or_ge g w.heap.size with hlt | hge
  · exact hlt
  · unfold Blk at h; rw [Array.getElem?_eq_none hge] at h; cases h
theorem Blk.alloc {w : World} {g : Nat} {t : TypeId} {cs : Array Value} (h : Blk w g t cs) (o : Obj) : Blk (w.alloc o) g t cs := (Below.heap_alloc w o g h.lt).trans h
theorem Blk.facts3 {w : World} {g : Nat} {t : TypeId} {x y z : Value} (h : Blk w g t #[x, y, z]) :
    (w.cell? ⟨g, 0, none⟩ = some x ∧ w.cell? ⟨g, 1, none⟩ = some y ∧ w.cell? ⟨g, 2, none⟩ = some z) ∧ (w.frozen? ⟨g, 0, none⟩ = false ∧ w.frozen? ⟨g, 1, none⟩ = false ∧ w.frozen? ⟨g, 2, none⟩ = false) :=
  ⟨⟨h.cell 0, h.cell 1, h.cell 2⟩, h.frozen 0, h.frozen 1, h.frozen 2⟩
/-- what a function returns whose first result lies in a block of three cells -/
theorem results_tok {fn : Func} {r t u : Tmp} (hr : fn.results = #[.cell r 68, .tmp t, .tmp u]) (tmps : Array Value) (w : World) (g : Nat) (a b c : Value)
    (hp : tmps.getD r undef = .pointer (some ⟨g, 0, none⟩)) (hB : Blk w g 68 #[a, b, c]) :
    (results fn tmps).run Tryz.prog w = .ok (.tuple #[.agg #[a, b, c], tmps.getD t undef, tmps.getD u undef]) w := by
  have c0 := hB.cell 0
  have c1 := hB.cell 1
  have c2 := hB.cell 2
  simp at c0 c1 c2 hp
  simp [results, hr, hp, go_sem, c0, c1, c2]
theorem tokVal_at (r : Option (Tk × Nat)) : ∃ a b c d e, tokVal r = .tuple #[.agg #[.int .i64 a, .int .i64 b, .int .i64 c], .int .i64 d, .bool e] := by
  cases r with
  | none => exact ⟨0, 0, 0, 0, false, rfl⟩
  | some x => exact ⟨x.1.1, x.1.2.1, x.1.2.2, x.2, true, rfl⟩
def tkCells (t : Tk) : List Value := [.int .i64 t.1, .int .i64 t.2.1, .int .i64 t.2.2]
def tksCells (ts : List Tk) : List Value := ts.flatMap tkCells
theorem tksCells_snoc (ts : List Tk) (t : Tk) : tksCells (ts ++ [t]) = tksCells ts ++ tkCells t := by simp [tksCells]
theorem only_of_below {a w : World} (h : Below a.heap.size a w) (row : Option Nat) : a.grownBy w row := ⟨h.os, h.tape, h.output, h.size, fun i hi _ => h.block i hi⟩
theorem own_below {w w' : World} {base : Nat} {e : TypeId} {size : Nat} {v : Value} {n : Nat} {xs : List Value} (h : w.ownsRow base e size v n xs) (hb : Below w.heap.size w w') : w'.ownsRow base e size v n xs := by
  refine h.kept (only_of_below hb none) ?_
  by_cases hn : v.ownBlock = none
  · exact .inl hn
  · exact .inr hn
theorem Tryz.info40 : (Tryz.prog.info? 68).map (fun i => (i.zero, i.size, i.bytes)) = some (some (.agg #[.int .i64 0, .int .i64 0, .int .i64 0]), 3, 24) := by kernel_rfl
theorem tk_one (t : Tk) : ∀ u ∈ tkCells t, u.oneCell' = true := by
  intro u hu
  simp only [tkCells, List.mem_cons, List.mem_nil_iff, or_false] at hu
  rcases hu with rfl | rfl | rfl <;> rfl
theorem new_cells (w : World) (t : TypeId) (k : Tk) (g : Nat) (hg : w.heap.size = g) : ∀ j u, (tkCells k)[j]? = some u → (w.alloc (.cells #[.int .i64 k.1, .int .i64 k.2.1, .int .i64 k.2.2] t)).cell? ((⟨g, 0, none⟩ : Addr).add j) = some u := by
  intro j u hj
  subst hg
  have hB := Blk.new w t #[.int .i64 k.1, .int .i64 k.2.1, .int .i64 k.2.2]
  have ha : (⟨w.heap.size, 0, none⟩ : Addr).add j = ⟨w.heap.size, j, none⟩ := by unfold Addr.add; split <;> simp_all
  rw [ha, hB.cell j, ← hj]
  simp [tkCells]
theorem Blk.new_at (w : World) (t : TypeId) (cs : Array Value) (g : Nat) (hg : w.heap.size = g) : Blk (w.alloc (.cells cs t)) g t cs := hg ▸ Blk.new w t cs
/-- what Tokens tells: the tokens in a row of its own, or a Spot in a block of its own -/
def TokPost (R : List Tk × Int) (w : World) (e : Ending) (w' : World) : Prop :=
  Below w.heap.size w w' ∧ ((R.2 = -1 ∧ ∃ v, e = .returned (.tuple #[v, .nilIface]) ∧ w'.ownsRow w.heap.size 68 3 v R.1.length (tksCells R.1))
    ∨ (∃ k g : Nat, R = ([], (k : Int)) ∧ e = .returned (.tuple #[.slice none 0 0, .iface 76 (.pointer (some ⟨g, 0, none⟩))]) ∧ w.heap.size ≤ g ∧ Blk w' g 80 #[.int .i64 k, .int .i64 2]))
theorem ret_two {a b c d : Int} (h1 : a = c) (h2 : b = d) : Ending.returned (.tuple #[.int .i64 a, .int .i64 b]) = .returned (.tuple #[.int .i64 c, .int .i64 d]) := by rw [h1, h2]
/-- what the document's Tokens tells -/
def RefPost (R : List Tk × Int) (w : World) (e : Ending) (w' : World) : Prop :=
  Below w.heap.size w w' ∧ ((R.2 = -1 ∧ ∃ v, e = .returned (.tuple #[v, .int .i64 (-1)]) ∧ w'.ownsRow w.heap.size 68 3 v R.1.length (tksCells R.1))
    ∨ (∃ k : Nat, R = ([], (k : Int)) ∧ e = .returned (.tuple #[.slice none 0 0, .int .i64 (k : Int)])))
theorem below_app {w wo w2 : World} {v : Value} {n : Nat} {xs : List Value} {o : Obj} (hb : Below w.heap.size w wo) (hown : wo.ownsRow w.heap.size 68 3 v n xs) (hg : (wo.alloc o).grownBy w2 v.ownBlock) : Below w.heap.size w w2 :=
  (hb.alloc hb.size o).grown hg (by simp; have := hb.size; omega) (fun g h => (hown.lt g h).1)
theorem own_snoc {w2 : World} {B : Nat} {v : Value} {ts : List Tk} {t : Tk} (h : w2.ownsRow B 68 3 v (ts.length + 1) (tksCells ts ++ tkCells t)) : w2.ownsRow B 68 3 v (ts ++ [t]).length (tksCells (ts ++ [t])) := by
  rw [tksCells_snoc]; simpa using h
/-- a slice value that holds these tokens -/
def ToksAt (w : World) (v : Value) (ts : List Tk) : Prop :=
  ∃ (A : Option Addr) (cap : Nat), v = .slice A ts.length cap ∧ ts.length ≤ cap ∧ ∀ (i : Nat) (t : Tk), ts[i]? = some t → ∃ b o : Nat, A = some ⟨b, o, none⟩ ∧ b < w.heap.size ∧
    w.cell? ⟨b, o + i * 3, none⟩ = some (.int .i64 t.1) ∧ w.cell? ⟨b, o + i * 3 + 1, none⟩ = some (.int .i64 t.2.1) ∧ w.cell? ⟨b, o + i * 3 + 2, none⟩ = some (.int .i64 t.2.2)
theorem ToksAt.below {w w' : World} {v : Value} {ts : List Tk} (h : ToksAt w v ts) (hb : Below w.heap.size w w') : ToksAt w' v ts := by
  obtain ⟨A, cap, hv, hc, hi⟩ := h
  refine ⟨A, cap, hv, hc, fun i t ht => ?_⟩
  obtain ⟨b, o, hA, hlt, h0, h1, h2⟩ := hi i t ht
  exact ⟨b, o, hA, Nat.lt_of_lt_of_le hlt hb.size, (hb.cell (p := ⟨b, _, none⟩) hlt).trans h0, (hb.cell (p := ⟨b, _, none⟩) hlt).trans h1, (hb.cell (p := ⟨b, _, none⟩) hlt).trans h2⟩
theorem tks_at (ts : List Tk) : ∀ (i : Nat) (t : Tk), ts[i]? = some t → (tksCells ts)[i * 3]? = some (.int .i64 t.1) ∧ (tksCells ts)[i * 3 + 1]? = some (.int .i64 t.2.1) ∧ (tksCells ts)[i * 3 + 2]? = some (.int .i64 t.2.2) := by
  induction ts with
  | nil => intro i t h; simp at h
  | cons x r ih =>
    intro i t h
    have hc : tksCells (x :: r) = .int .i64 x.1 :: .int .i64 x.2.1 :: .int .i64 x.2.2 :: tksCells r := rfl
    cases i with
    | zero => simp at h; subst h; rw [hc]; exact ⟨rfl, rfl, rfl⟩
    | succ i =>
      simp at h
      obtain ⟨h0, h1, h2⟩ := ih i t h
      rw [hc, show (i + 1) * 3 = i * 3 + 3 from by omega]
      exact ⟨h0, h1, h2⟩
theorem ToksAt.of_own {w : World} {B : Nat} {v : Value} {ts : List Tk} (h : w.ownsRow B 68 3 v ts.length (tksCells ts)) : ToksAt w v ts := by
  rcases h.2 with ⟨rfl, hn⟩ | ⟨g, cap, cur, rfl, _, hg, hc, _, hs, ht⟩
  · have : ts = [] := List.eq_nil_of_length_eq_zero hn
    subst this
    exact ⟨none, 0, rfl, Nat.le_refl _, fun i t h => by simp at h⟩
  · refine ⟨_, cap, rfl, hc, fun i t hi => ?_⟩
    obtain ⟨h0, h1, h2⟩ := tks_at ts i t hi
    have hB : Blk w g 68 cur := hg
    have hl : i < ts.length := (List.getElem?_eq_some_iff.1 hi).1
    have hcell : ∀ j u, j < ts.length * 3 → (tksCells ts)[j]? = some u → w.cell? ⟨g, 0 + j, none⟩ = some u := by
      intro j u hj hu
      rw [hB.cell, ← hu, ← ht, List.getElem?_take, if_pos (by omega)]
      simp
    exact ⟨g, 0, rfl, hB.lt, hcell _ _ (by omega) h0, hcell _ _ (by omega) h1, hcell _ _ (by omega) h2⟩
theorem encode_letter (n : Int) (h0 : 0 ≤ n) (h1 : n ≤ 25) : Utf8.encode (97 + n) = bytes [UInt8.ofNat (97 + n.toNat)] := by
  have h : ∀ m : Fin 26, Utf8.encode (97 + (m.val : Int)) = bytes [UInt8.ofNat (97 + m.val)] := by decide +kernel
  have := h ⟨n.toNat, by omega⟩
  simpa [Int.toNat_of_nonneg h0] using this
theorem grow_below (w : World) (k : Nat) (os : Array Obj) : Below w.heap.size w (Sort.grow (w.drewN k) os) :=
  ⟨rfl, rfl, rfl, by simp [Sort.grow], fun i hi => by
    show (w.heap ++ os)[i]? = w.heap[i]?
    rw [Array.getElem?_append_left hi]⟩
def strVals (ts : List Tk) : List Value := ts.map fun t => .string (bytes (textB t))
theorem strVals_snoc (ts : List Tk) (t : Tk) : strVals (ts ++ [t]) = strVals ts ++ [.string (bytes (textB t))] := by simp [strVals]
theorem Tryz.info9 : (Tryz.prog.info? 9).map (fun i => (i.zero, i.size, i.bytes)) = some (some (.string ⟨#[]⟩), 1, 16) := by kernel_rfl
/-- what Text tells -/
def TextPost (ts : List Tk) (w : World) (e : Ending) (w' : World) : Prop :=
  Below w.heap.size w w' ∧ (((∀ t ∈ ts, mayB t = true) ∧ e = .returned (.tuple #[.string (bytes (joinB ts)), .nilIface]))
    ∨ (¬ (∀ t ∈ ts, mayB t = true) ∧ e = .returned (.tuple #[.string ⟨#[]⟩, .iface 78 (.int .i64 1)])))
theorem new_str (w : World) (s : Value) : ∀ j u, [s][j]? = some u → (w.alloc (.cells #[s] 9)).cell? ((⟨w.heap.size, 0, none⟩ : Addr).add j) = some u := by
  intro j u hj
  cases j with
  | zero =>
    simp at hj
    subst hj
    exact (Blk.new w 9 #[s]).cell 0
  | succ j => simp at hj
theorem str_one (s : ByteArray) : ∀ u ∈ [Value.string s], u.oneCell' = true := by
  intro u hu
  obtain rfl := List.mem_singleton.1 hu
  rfl
theorem bytes_append (a b : List UInt8) : bytes (a ++ b) = bytes a ++ bytes b := by
  refine ByteArray.ext ?_
  simp [bytes]
theorem bytes_size (a : List UInt8) : (bytes a).size = a.length := by rw [Lib.size_eq]; simp [bytes]
theorem text_step {ts : List Tk} {k : Nat} {t : Tk} {S X : ByteArray} (hJ : S = bytes (joinB (ts.take k))) (hT : ts.take (k + 1) = ts.take k ++ [t]) (hX : X = bytes (textB t)) (hk : k < ts.length) :
    (0 < k → S ++ ⟨#[32]⟩ ++ X = bytes (joinB (ts.take (k + 1)))) ∧ (¬ 0 < k → S ++ X = bytes (joinB (ts.take (k + 1)))) := by
  rw [hT, hJ, hX]
  refine ⟨fun h => ?_, fun h => ?_⟩
  · rw [joinB_snoc _ _ (by intro h0; have := congrArg List.length h0; rw [List.length_take, List.length_nil] at this; omega), bytes_append, bytes_append]
    rfl
  · obtain rfl : k = 0 := by omega
    rw [List.take_zero, List.nil_append, joinB_one, ← bytes_append]
    rfl
theorem bytes_full {l : List UInt8} (h : l ≠ []) : (bytes l).toList.isEmpty = false := by
  rw [Lib.toList_data]
  cases l with
  | nil => exact absurd rfl h
  | cons c r => rfl
/-- what the document's Text tells -/
def RTextPost (ts : List Tk) (w : World) (e : Ending) (w' : World) : Prop :=
  Below w.heap.size w w' ∧ (((∀ t ∈ ts, mayB t = true) ∧ e = .returned (.tuple #[.string (bytes (joinB ts)), .bool true]))
    ∨ (¬ (∀ t ∈ ts, mayB t = true) ∧ e = .returned (.tuple #[.string ⟨#[]⟩, .bool false])))
theorem upto_of {p : UInt8 → Bool} {l : List UInt8} {k : Nat} {w r : List UInt8} (h : l.drop k = w ++ 32 :: r) (hw : ∀ c ∈ w, p c = true) (hs : p 32 = false) : upto p l k = k + w.length ∧ mid l k (upto p l k) = w := by
  have ht : (l.drop k).takeWhile p = w := by
    rw [h, List.takeWhile_append_of_pos hw, List.takeWhile_cons, hs]
    simp
  refine ⟨by unfold upto; rw [ht], ?_⟩
  rw [mid_upto, ht]
theorem mid_of {l : List UInt8} {k : Nat} {w r : List UInt8} (h : l.drop k = w ++ r) : mid l k (k + w.length) = w := by
  unfold mid
  rw [Nat.add_sub_cancel_left, h, List.take_left]
theorem tok_text (l : List UInt8) (k : Nat) (t : Tk) (r : List UInt8) (h : l.drop k = textB t ++ 32 :: r) (hm : mayB t = true) (hn : t.2.1 ≤ 9223372036854775807) :
    k < l.length ∧ isSp (l.getD k 0) = false ∧ tokAt l k = some ((t.1, t.2.1, (k : Int)), k + (textB t).length) := by
  obtain ⟨kd, n, a⟩ := t
  obtain ⟨h1, h2, h3, h4, h5⟩ := mayB_range hm
  simp only at h1 h2 h3 h4 h5 hn ⊢
  by_cases e1 : kd = 1
  · subst e1
    have h0 := h3 rfl
    rw [textB_num n a h0] at h ⊢
    obtain ⟨c, q, hq⟩ := digits_cons n.toNat
    obtain ⟨hk, hc⟩ := first_of (show l.drop k = c :: (q ++ 32 :: r) by rw [h, hq]; rfl)
    have hd : isDg (l.getD k 0) = true := by rw [hc]; exact digits_digit n.toNat c (by rw [hq]; simp)
    obtain ⟨u1, u2⟩ := upto_of h (digits_digit n.toNat) (by decide)
    refine ⟨hk, dg_not _ hd, ?_⟩
    rw [tok_num l k hd, u2, val_digits, if_pos (by omega), u1, show ((n.toNat : Nat) : Int) = n from by omega]
  · by_cases e2 : kd = 2
    · subst e2
      obtain ⟨h0, h25⟩ := h4 rfl
      rw [textB_var n a h0] at h ⊢
      obtain ⟨hk, hc⟩ := first_of (show l.drop k = UInt8.ofNat (97 + n).toNat :: (32 :: r) by rw [h]; rfl)
      have hcn : (UInt8.ofNat (97 + n).toNat).toNat = (97 + n).toNat := by rw [UInt8.toNat_ofNat', Nat.mod_eq_of_lt (by omega)]
      have hl : isLe (l.getD k 0) = true := by rw [hc]; unfold isLe; rw [hcn]; simp; omega
      obtain ⟨u1, u2⟩ := upto_of (p := isLe) h (by intro c hc'; obtain rfl := List.mem_singleton.1 hc'; rw [← hc]; exact hl) (by decide)
      refine ⟨hk, (le_not _ hl).2, ?_⟩
      rw [tok_word l k hk (le_not _ hl).1 hl, if_pos (by rw [u1]; rfl), hc, hcn, show (((97 + n).toNat : Nat) : Int) - 97 = n from by omega]
      rfl
    · have h0 := h5 e1 e2
      subst h0
      obtain ⟨f1, f2⟩ := table_is kd.toNat (by omega) (by omega)
      have ht : textB (kd, 0, a) = texts.getD kd.toNat [] := by rw [textB_fix kd 0 a (by omega) h2]; unfold signT; rw [if_pos ⟨by omega, h2⟩]
      rw [ht] at h ⊢
      generalize texts.getD kd.toNat [] = w at *
      have hkd : ((kd.toNat : Nat) : Int) = kd := by omega
      rcases f2 with ⟨g1, g2⟩ | ⟨c, rfl, g1, g2, g3, g4⟩ | ⟨c, d, rfl, g1, g2, g3⟩
      · obtain ⟨c, q, rfl⟩ : ∃ c q, w = c :: q := List.exists_cons_of_ne_nil (by rintro rfl; simp at g1)
        obtain ⟨hk, hc⟩ := first_of (show l.drop k = c :: (q ++ 32 :: r) by rw [h]; rfl)
        have hl : isLe (l.getD k 0) = true := by rw [hc]; exact g2 c (by simp)
        obtain ⟨u1, u2⟩ := upto_of h g2 (by decide)
        refine ⟨hk, (le_not _ hl).2, ?_⟩
        unfold tokAt
        rw [if_neg (by rw [(le_not _ hl).1]; exact Bool.false_ne_true), if_pos hl, if_neg (by rw [u1]; omega)]
        unfold fixTok
        rw [u2, f1, Option.map_some, u1, hkd]
      · obtain ⟨hk, hc⟩ := first_of (show l.drop k = c :: (32 :: r) by rw [h]; rfl)
        have m1 : mid l k (k + 1) = [c] := mid_of (w := [c]) h
        have m2 : mid l k (k + 2) = [c, 32] := mid_of (w := [c, 32]) (r := r) (by rw [h]; rfl)
        refine ⟨hk, by rw [hc]; exact g3, ?_⟩
        unfold tokAt fixTok
        rw [if_neg (by rw [hc, g1]; exact Bool.false_ne_true), if_neg (by rw [hc, g2]; exact Bool.false_ne_true), m1, m2, if_neg (by rw [g4]; simp), f1, Option.map_some, hkd]
        rfl
      · obtain ⟨hk, hc⟩ := first_of (show l.drop k = c :: (d :: 32 :: r) by rw [h]; rfl)
        have m2 : mid l k (k + 2) = [c, d] := mid_of (w := [c, d]) h
        have hlen : k + 2 ≤ l.length := by
          have := congrArg List.length h
          rw [List.length_drop] at this
          simp at this
          omega
        refine ⟨hk, by rw [hc]; exact g3, ?_⟩
        unfold tokAt fixTok
        rw [if_neg (by rw [hc, g1]; exact Bool.false_ne_true), if_neg (by rw [hc, g2]; exact Bool.false_ne_true), m2, f1, if_pos ⟨hlen, by simp⟩, Option.map_some, hkd]
        rfl
theorem scan_flat (l : List UInt8) : ∀ (ts : List Tk) (k : Nat) (acc : List Tk), l.drop k = flat ts → (∀ t ∈ ts, mayB t = true) → (∀ t ∈ ts, t.2.1 ≤ 9223372036854775807) →
    ∃ us, same2 us ts ∧ scan l k acc = (acc ++ us, -1)
  | [], k, acc, h, _, _ => ⟨[], rfl, by rw [scan_end l k acc (List.drop_eq_nil_iff.1 h), List.append_nil]⟩
  | t :: ts, k, acc, h, hm, hn => by
    have hd : l.drop k = textB t ++ 32 :: flat ts := by rw [h]; simp [flat]
    obtain ⟨hk, hs, ht⟩ := tok_text l k t (flat ts) hd (hm t (by simp)) (hn t (by simp))
    have hd2 : l.drop (k + (textB t).length) = 32 :: flat ts := by
      rw [← List.drop_drop, hd, List.drop_left]
    obtain ⟨hk2, hc2⟩ := first_of hd2
    have hd3 : l.drop (k + (textB t).length + 1) = flat ts := by
      rw [← List.drop_drop, hd2]; rfl
    obtain ⟨us, hu, hr⟩ := scan_flat l ts (k + (textB t).length + 1) (acc ++ [(t.1, t.2.1, (k : Int))]) hd3 (fun x hx => hm x (by simp [hx])) (fun x hx => hn x (by simp [hx]))
    refine ⟨(t.1, t.2.1, (k : Int)) :: us, ?_, ?_⟩
    · unfold same2 at hu ⊢
      rw [List.map_cons, List.map_cons, hu]
    · rw [scan_tok l k _ _ acc hk hs ht, scan_sp l _ _ hk2 (by rw [hc2]; rfl), hr]
      simp
/-- the tokens of the text of tokens, a space at each end -/
theorem scan_back (ts : List Tk) (hm : ∀ t ∈ ts, mayB t = true) (hn : ∀ t ∈ ts, t.2.1 ≤ 9223372036854775807) :
    ∃ us, same2 us ts ∧ scan (32 :: joinB ts ++ [32]) 0 [] = (us, -1) := by
  by_cases h : ts = []
  · subst h
    exact ⟨[], rfl, by decide +kernel⟩
  · obtain ⟨us, hu, hr⟩ := scan_flat (32 :: joinB ts ++ [32]) ts 1 [] (by rw [← flat_join ts h]; rfl) hm hn
    refine ⟨us, hu, ?_⟩
    rw [scan_sp _ 0 [] (by simp) (by rfl), hr]
    simp
theorem eql_large (w : World) : (binOp .eql 48 (.iface 78 (.int .i64 3)) (.iface 78 (.int .i64 3))).run Tryz.prog w = .ok (.bool true) w := by kernel_rfl
theorem eql_arg (w : World) : (binOp .eql 48 (.iface 78 (.int .i64 1)) (.iface 78 (.int .i64 1))).run Tryz.prog w = .ok (.bool true) w := by kernel_rfl
theorem neq_code_nil (w : World) : (binOp .neq 48 (.iface 78 (.int .i64 1)) .nilIface).run Tryz.prog w = .ok (.bool true) w := by kernel_rfl
theorem back_list (ts : List Tk) : ((⟨#[32]⟩ : ByteArray) ++ bytes (joinB ts) ++ ⟨#[32]⟩).data.toList = 32 :: joinB ts ++ [32] := by
  simp [bytes]
end Go.Proofs.YtafcbgapllkghaaGreatDoor
