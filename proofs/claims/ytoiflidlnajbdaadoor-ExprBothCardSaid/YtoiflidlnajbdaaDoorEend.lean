/- The contract of the document's End (spinetref04.End): the value of what ends at a place of a postfix, and where that begins. -/
import Derived.Test.YtoiflidlnajbdaaDoorEref
import Derived.Test.YtoiflidlnajbdaaDoorTrtak
namespace Go.Proofs.YtoiflidlnajbdaaDoor
open Go.ChangeShapes Go.WideShapes Go.ChangeAt Go.RowKit
set_option linter.unusedVariables false

theorem vs_under (m : Md) (ts : List Tk) : ∀ (n i : Nat), i ≤ n → i ≤ ts.length → Valid ts i → ∀ x S u VS, stk ts i = x :: S → vs m ts i = u :: VS → VS = vs m ts x.f
  | n, 0, _, _, _, x, S, u, VS, h, _ => by cases h
  | 0, i + 1, hn, _, _, _, _, _, _, _, _ => by omega
  | n + 1, i + 1, hn, hl, hv, x, S, u, VS, h, hu => by
    rw [stk_succ] at h
    rw [vs_succ m (by omega)] at hu
    have hvl := vs_len m ts i (by omega) (hv.mono (by omega))
    have h0 := (hv i (by omega)).1
    have h1 := (hv i (by omega)).2
    rcases tak_cases (ts.getD i (0, 0, 0)) with c | c | c | c
    · omega
    · rw [step0 _ c] at h
      rw [vstep0 _ c] at hu
      injection h with hx hS
      injection hu with hu1 hu2
      subst hx
      exact hu2.symm
    · rcases hs : stk ts i with _ | ⟨y, S'⟩
      · rw [hs, c] at h1; simp at h1
      · rcases hw : vs m ts i with _ | ⟨y', VS'⟩
        · rw [hs, hw] at hvl; simp at hvl
        · rw [hs, step1 _ _ c] at h
          rw [hw, vstep1 _ _ c] at hu
          injection h with hx hS
          injection hu with hu1 hu2
          have := vs_under m ts n i (by omega) (by omega) (hv.mono (by omega)) y S' y' VS' hs hw
          subst hx; subst hu2
          exact this
    · rcases hs : stk ts i with _ | ⟨b, _ | ⟨a, S'⟩⟩
      · rw [hs, c] at h1; simp at h1
      · rw [hs, c] at h1; simp at h1
      · rcases hw : vs m ts i with _ | ⟨b', _ | ⟨a', VS'⟩⟩
        · rw [hs, hw] at hvl; simp at hvl
        · rw [hs, hw] at hvl; simp at hvl
        · rw [hs, step2 _ _ _ c] at h
          rw [hw, vstep2 _ _ _ c] at hu
          injection h with hx hS
          injection hu with hu1 hu2
          have h2 := stk_under ts i i (Nat.le_refl _) (hv.mono (by omega)) b (a :: S') hs
          have h3 := vs_under m ts n i (by omega) (by omega) (hv.mono (by omega)) b (a :: S') b' (a' :: VS') hs hw
          have h4 := vs_under m ts n b.f (by omega) (by omega) (hv.mono (by omega)) a S' a' VS' h2.2.symm h3.symm
          subst hx; subst hu2
          exact h4
theorem results_end {fn : Func} {r s : Tmp} (hr : fn.results = #[.cell r 52, .tmp s]) (tmps : Array Value) (w : World) (g : Nat) (a b c : Value)
    (hp : tmps.getD r undef = .pointer (some ⟨g, 0, none⟩)) (hB : Blk w g 52 #[a, b, c]) :
    (results fn tmps).run Tryd.prog w = .ok (.tuple #[.agg #[a, b, c], tmps.getD s undef]) w := by
  have c0 := hB.cell 0
  have c1 := hB.cell 1
  have c2 := hB.cell 2
  simp at c0 c1 c2 hp
  simp [results, hr, hp, go_sem, c0, c1, c2]
def EPost (u : Vl) (f : Nat) (w : World) (e : Ending) (w' : World) : Prop := e = .returned (.tuple #[valOf u, .int .i64 (f : Int)]) ∧ Below w.heap.size w w'
theorem ret_end {u : Vl} {f : Nat} {a b c : Int} (h : valOf u = .agg #[.int .i64 a, .int .i64 b, .int .i64 c]) : Ending.returned (.tuple #[.agg #[.int .i64 a, .int .i64 b, .int .i64 c], .int .i64 (f : Int)]) = .returned (.tuple #[valOf u, .int .i64 (f : Int)]) := by rw [h]
theorem tok_lies {w : World} {A : Option Addr} {cap k : Nat} {ts : List Tk} {t : Tk} (h : ToksAt w (.slice A ts.length cap) ts) (ht : ts[k]? = some t) : ∃ b o : Nat, A = some ⟨b, o, none⟩ ∧ b < w.heap.size ∧ w.cell? ⟨b, o + k * 3, none⟩ = some (.int .i64 t.1) ∧ w.cell? ⟨b, o + k * 3 + 1, none⟩ = some (.int .i64 t.2.1) ∧ w.cell? ⟨b, o + k * 3 + 2, none⟩ = some (.int .i64 t.2.2) ∧ ts.length ≤ cap := by
  obtain ⟨A', cap', hv, hc, hi⟩ := h
  injection hv with h1 h2 h3
  subst h1
  subst h3
  obtain ⟨b, o, hA, hlt, c0, c1, c2⟩ := hi k t ht
  exact ⟨b, o, hA, hlt, c0, c1, c2, hc⟩
/-- the world behind the first two statements -/
def W0 (w : World) (kd x a : Int) : World := (w.alloc (.cells #[.int .i64 0, .int .i64 0, .int .i64 0] 52)).alloc (.cells #[.int .i64 kd, .int .i64 x, .int .i64 a] 46)
theorem w0_below (w : World) (kd x a : Int) : Below w.heap.size w (W0 w kd x a) := ((Below.refl w.heap.size w).alloc (Nat.le_refl _) _).alloc (by simp) _
theorem w0_res (w : World) (kd x a : Int) : Blk (W0 w kd x a) w.heap.size 52 #[.int .i64 0, .int .i64 0, .int .i64 0] := (Blk.new w 52 _).alloc _
theorem w0_tok (w : World) (kd x a : Int) : Blk (W0 w kd x a) (w.heap.size + 1) 46 #[.int .i64 kd, .int .i64 x, .int .i64 a] := Blk.new_at _ 46 _ _ (by simp)
theorem w0_size (w : World) (kd x a : Int) : (W0 w kd x a).heap.size = w.heap.size + 1 + 1 := by simp [W0]
set_option maxHeartbeats 4000000 in
set_option maxRecDepth 100000 in
theorem end_num (ts : List Tk) (b o cap k : Nat) (x vars : Int) (ve : Value) (w : World) (hk : k < ts.length) (hl : ts.length ≤ 100) (ty : Bool) (hlt : b < w.heap.size) (c0 : w.cell? ⟨b, o + k * 3, none⟩ = some (.int .i64 1)) (c1 : w.cell? ⟨b, o + k * 3 + 1, none⟩ = some (.int .i64 x)) (c2 : w.cell? ⟨b, o + k * 3 + 2, none⟩ = some (.int .i64 0)) (hcc : ts.length ≤ cap) :
    Calls Tryd.prog 18 #[.slice (some ⟨b, o, none⟩) ts.length cap, .int .i64 (k : Int), ve, .int .i64 vars, .bool ty] w (EPost (.ok 1 x) k w) := by
  have hk2 : (k : Int) < (ts.length : Int) := by omega
  have HB := Lib.hid (w0_below w 1 x 0)
  have HR := Lib.hid (w0_res w 1 x 0)
  have HT := Lib.hid (w0_tok w 1 x 0)
  go_enter Tryd.func18, Tryd.ntmps18
  go_wp2_with fail
  refine (whole_val _ _).mono ?_
  rintro e w1 ⟨rfl, hb1⟩
  have HX := Lib.hid (HB.out.trans (hb1.mono HB.out.size))
  have HC := Lib.hid (HR.out.below hb1 HR.out.lt)
  obtain ⟨⟨r0, r1, r2⟩, f0, f1, f2⟩ := HC.out.facts3
  clear hb1
  go_wp2_with fail
  refine bodyPost_ret (results_end Tryd.results18 _ _ w.heap.size _ _ _ (by rfl) (HC.out.set3 _ _ _)) rfl ⟨ret_end (by rfl), ((HX.out.setCell (by simp) _).setCell (by simp) _).setCell (by simp) _⟩
set_option maxHeartbeats 4000000 in
set_option maxRecDepth 100000 in
theorem end_var_t (ts : List Tk) (b o cap k : Nat) (x vars : Int) (ve : Value) (w : World) (hk : k < ts.length) (hl : ts.length ≤ 100) (hx : x < vars) (hlt : b < w.heap.size) (c0 : w.cell? ⟨b, o + k * 3, none⟩ = some (.int .i64 2)) (c1 : w.cell? ⟨b, o + k * 3 + 1, none⟩ = some (.int .i64 x)) (c2 : w.cell? ⟨b, o + k * 3 + 2, none⟩ = some (.int .i64 0)) (hcc : ts.length ≤ cap) :
    Calls Tryd.prog 18 #[.slice (some ⟨b, o, none⟩) ts.length cap, .int .i64 (k : Int), ve, .int .i64 vars, .bool true] w (EPost (.ok 1 0) k w) := by
  have hk2 : (k : Int) < (ts.length : Int) := by omega
  have HB := Lib.hid (w0_below w 2 x 0)
  have HR := Lib.hid (w0_res w 2 x 0)
  have HT := Lib.hid (w0_tok w 2 x 0)
  have hd : decide (x < vars) = true := by simpa using hx
  go_enter Tryd.func18, Tryd.ntmps18
  go_wp2_with fail
  refine (whole_val _ _).mono ?_
  rintro e w1 ⟨rfl, hb1⟩
  have HX := Lib.hid (HB.out.trans (hb1.mono HB.out.size))
  have HC := Lib.hid (HR.out.below hb1 HR.out.lt)
  obtain ⟨⟨r0, r1, r2⟩, f0, f1, f2⟩ := HC.out.facts3
  clear hb1
  go_wp2_with fail
  refine bodyPost_ret (results_end Tryd.results18 _ _ w.heap.size _ _ _ (by rfl) (HC.out.set3 _ _ _)) rfl ⟨ret_end (by rfl), ((HX.out.setCell (by simp) _).setCell (by simp) _).setCell (by simp) _⟩
set_option maxHeartbeats 4000000 in
set_option maxRecDepth 100000 in
theorem end_var_tb (ts : List Tk) (b o cap k : Nat) (x vars : Int) (ve : Value) (w : World) (hk : k < ts.length) (hl : ts.length ≤ 100) (hx : vars ≤ x) (hlt : b < w.heap.size) (c0 : w.cell? ⟨b, o + k * 3, none⟩ = some (.int .i64 2)) (c1 : w.cell? ⟨b, o + k * 3 + 1, none⟩ = some (.int .i64 x)) (c2 : w.cell? ⟨b, o + k * 3 + 2, none⟩ = some (.int .i64 0)) (hcc : ts.length ≤ cap) :
    Calls Tryd.prog 18 #[.slice (some ⟨b, o, none⟩) ts.length cap, .int .i64 (k : Int), ve, .int .i64 vars, .bool true] w (EPost (.bad 4) k w) := by
  have hk2 : (k : Int) < (ts.length : Int) := by omega
  have HB := Lib.hid (w0_below w 2 x 0)
  have HR := Lib.hid (w0_res w 2 x 0)
  have HT := Lib.hid (w0_tok w 2 x 0)
  have hd : decide (x < vars) = false := by simpa using hx
  have hd2 : ¬ x < vars := by omega
  go_enter Tryd.func18, Tryd.ntmps18
  go_wp2_with fail
  refine bodyPost_ret (results_end Tryd.results18 _ _ w.heap.size _ _ _ (by rfl) ((Blk.new w 52 _).alloc _)) rfl ⟨ret_end (by rfl), ((Below.refl w.heap.size w).alloc (Nat.le_refl _) _).alloc (by simp) _⟩
set_option maxHeartbeats 4000000 in
set_option maxRecDepth 100000 in
theorem end_var_e (ts : List Tk) (b o cap k : Nat) (vars : Int) (w : World) (hk : k < ts.length) (hl : ts.length ≤ 100) (vb vo vcap len j : Nat) (n : Int) (hlen : len ≤ 1000) (hj : j < len) (hvb : vb < w.heap.size) (cv : w.cell? ⟨vb, vo + j, none⟩ = some (.int .i64 n)) (hlt : b < w.heap.size) (c0 : w.cell? ⟨b, o + k * 3, none⟩ = some (.int .i64 2)) (c1 : w.cell? ⟨b, o + k * 3 + 1, none⟩ = some (.int .i64 (j : Int))) (c2 : w.cell? ⟨b, o + k * 3 + 2, none⟩ = some (.int .i64 0)) (hcc : ts.length ≤ cap) :
    Calls Tryd.prog 18 #[.slice (some ⟨b, o, none⟩) ts.length cap, .int .i64 (k : Int), .slice (some ⟨vb, vo, none⟩) len vcap, .int .i64 vars, .bool false] w (EPost (.ok 1 n) k w) := by
  have hk2 : (k : Int) < (ts.length : Int) := by omega
  have HB := Lib.hid (w0_below w 2 (j : Int) 0)
  have HR := Lib.hid (w0_res w 2 (j : Int) 0)
  have HT := Lib.hid (w0_tok w 2 (j : Int) 0)
  have hj2 : (j : Int) < (len : Int) := by omega
  have cv2 : (W0 w 2 (j : Int) 0).cell? ⟨vb, vo + j, none⟩ = some (.int .i64 n) := (HB.out.cell (p := ⟨vb, vo + j, none⟩) hvb).trans cv
  have hd : decide ((j : Int) < (len : Int)) = true := by simpa using hj
  unfold W0 at cv2
  go_enter Tryd.func18, Tryd.ntmps18
  go_wp2_with fail
  refine (whole_val _ _).mono ?_
  rintro e w1 ⟨rfl, hb1⟩
  have HX := Lib.hid (HB.out.trans (hb1.mono HB.out.size))
  have HC := Lib.hid (HR.out.below hb1 HR.out.lt)
  obtain ⟨⟨r0, r1, r2⟩, f0, f1, f2⟩ := HC.out.facts3
  clear hb1
  go_wp2_with fail
  refine bodyPost_ret (results_end Tryd.results18 _ _ w.heap.size _ _ _ (by rfl) (HC.out.set3 _ _ _)) rfl ⟨ret_end (by rfl), ((HX.out.setCell (by simp) _).setCell (by simp) _).setCell (by simp) _⟩
set_option maxHeartbeats 4000000 in
set_option maxRecDepth 100000 in
theorem end_var_eb (ts : List Tk) (b o cap k : Nat) (x vars : Int) (w : World) (hk : k < ts.length) (hl : ts.length ≤ 100) (vA : Option Addr) (vcap len : Nat) (hlen : len ≤ 1000) (hx : (len : Int) ≤ x) (hlt : b < w.heap.size) (c0 : w.cell? ⟨b, o + k * 3, none⟩ = some (.int .i64 2)) (c1 : w.cell? ⟨b, o + k * 3 + 1, none⟩ = some (.int .i64 x)) (c2 : w.cell? ⟨b, o + k * 3 + 2, none⟩ = some (.int .i64 0)) (hcc : ts.length ≤ cap) :
    Calls Tryd.prog 18 #[.slice (some ⟨b, o, none⟩) ts.length cap, .int .i64 (k : Int), .slice vA len vcap, .int .i64 vars, .bool false] w (EPost (.bad 4) k w) := by
  have hk2 : (k : Int) < (ts.length : Int) := by omega
  have HB := Lib.hid (w0_below w 2 x 0)
  have HR := Lib.hid (w0_res w 2 x 0)
  have HT := Lib.hid (w0_tok w 2 x 0)
  have hd : decide (x < (len : Int)) = false := by simpa using hx
  have hd2 : ¬ x < (len : Int) := by omega
  go_enter Tryd.func18, Tryd.ntmps18
  go_wp2_with fail
  refine bodyPost_ret (results_end Tryd.results18 _ _ w.heap.size _ _ _ (by rfl) ((Blk.new w 52 _).alloc _)) rfl ⟨ret_end (by rfl), ((Below.refl w.heap.size w).alloc (Nat.le_refl _) _).alloc (by simp) _⟩
set_option maxHeartbeats 4000000 in
set_option maxRecDepth 100000 in
theorem end_true (ts : List Tk) (b o cap k : Nat) (vars : Int) (ve : Value) (w : World) (hk : k < ts.length) (hl : ts.length ≤ 100) (ty : Bool) (hlt : b < w.heap.size) (c0 : w.cell? ⟨b, o + k * 3, none⟩ = some (.int .i64 15)) (c1 : w.cell? ⟨b, o + k * 3 + 1, none⟩ = some (.int .i64 0)) (c2 : w.cell? ⟨b, o + k * 3 + 2, none⟩ = some (.int .i64 0)) (hcc : ts.length ≤ cap) :
    Calls Tryd.prog 18 #[.slice (some ⟨b, o, none⟩) ts.length cap, .int .i64 (k : Int), ve, .int .i64 vars, .bool ty] w (EPost (tru true) k w) := by
  have hk2 : (k : Int) < (ts.length : Int) := by omega
  have HB := Lib.hid (w0_below w 15 0 0)
  have HR := Lib.hid (w0_res w 15 0 0)
  have HT := Lib.hid (w0_tok w 15 0 0)
  go_enter Tryd.func18, Tryd.ntmps18
  go_wp2_with fail
  refine (truth_val _ _).mono ?_
  rintro e w1 ⟨rfl, hb1⟩
  have HX := Lib.hid (HB.out.trans (hb1.mono HB.out.size))
  have HC := Lib.hid (HR.out.below hb1 HR.out.lt)
  obtain ⟨⟨r0, r1, r2⟩, f0, f1, f2⟩ := HC.out.facts3
  clear hb1
  go_wp2_with fail
  refine bodyPost_ret (results_end Tryd.results18 _ _ w.heap.size _ _ _ (by rfl) (HC.out.set3 _ _ _)) rfl ⟨ret_end (by rfl), ((HX.out.setCell (by simp) _).setCell (by simp) _).setCell (by simp) _⟩
set_option maxHeartbeats 4000000 in
set_option maxRecDepth 100000 in
theorem end_false (ts : List Tk) (b o cap k : Nat) (vars : Int) (ve : Value) (w : World) (hk : k < ts.length) (hl : ts.length ≤ 100) (ty : Bool) (hlt : b < w.heap.size) (c0 : w.cell? ⟨b, o + k * 3, none⟩ = some (.int .i64 16)) (c1 : w.cell? ⟨b, o + k * 3 + 1, none⟩ = some (.int .i64 0)) (c2 : w.cell? ⟨b, o + k * 3 + 2, none⟩ = some (.int .i64 0)) (hcc : ts.length ≤ cap) :
    Calls Tryd.prog 18 #[.slice (some ⟨b, o, none⟩) ts.length cap, .int .i64 (k : Int), ve, .int .i64 vars, .bool ty] w (EPost (tru false) k w) := by
  have hk2 : (k : Int) < (ts.length : Int) := by omega
  have HB := Lib.hid (w0_below w 16 0 0)
  have HR := Lib.hid (w0_res w 16 0 0)
  have HT := Lib.hid (w0_tok w 16 0 0)
  go_enter Tryd.func18, Tryd.ntmps18
  go_wp2_with fail
  refine (truth_val _ _).mono ?_
  rintro e w1 ⟨rfl, hb1⟩
  have HX := Lib.hid (HB.out.trans (hb1.mono HB.out.size))
  have HC := Lib.hid (HR.out.below hb1 HR.out.lt)
  obtain ⟨⟨r0, r1, r2⟩, f0, f1, f2⟩ := HC.out.facts3
  clear hb1
  go_wp2_with fail
  refine bodyPost_ret (results_end Tryd.results18 _ _ w.heap.size _ _ _ (by rfl) (HC.out.set3 _ _ _)) rfl ⟨ret_end (by rfl), ((HX.out.setCell (by simp) _).setCell (by simp) _).setCell (by simp) _⟩
end Go.Proofs.YtoiflidlnajbdaaDoor
