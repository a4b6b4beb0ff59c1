/- The contracts of parse's reader's operator (a token is passed by, one more is read, and a token is put behind it) and operand. -/
import Derived.Test.YtmbmijhfoncncaaGreatDoorPkind
namespace Go.Proofs.YtmbmijhfoncncaaGreatDoor
open Go.ChangeShapes Go.WideShapes Go.ChangeAt Go.RowKit
set_option linter.unusedVariables false

def opR (kd : Int) : Res → Res
  | .ok k o => .ok k (o ++ [(kd, 0, 0)])
  | .bad k => .bad k
theorem thenR_op {r : Option Res} {kd : Int} {R : Res} (h : thenR r (fun k o => some (.ok k (o ++ [(kd, 0, 0)]))) = some R) : ∃ R1, r = some R1 ∧ R = opR kd R1 := by
  rcases thenR_some h with ⟨k, h1, rfl⟩ | ⟨k, o, h1, h2⟩
  · exact ⟨_, h1, rfl⟩
  · injection h2 with h2; exact ⟨_, h1, h2.symm⟩
theorem slice_of_own {w : World} {B : Nat} {e : TypeId} {s n : Nat} {v : Value} {xs : List Value} (h : w.ownsRow B e s v (n + 1) xs) : ∃ g cap, v = .slice (some ⟨g, 0, none⟩) (n + 1) cap := by
  rcases h.2 with ⟨_, h⟩ | ⟨a, b, _, h, _⟩
  · omega
  · exact ⟨a, b, h⟩
theorem Blk.grown {w w' : World} {g : Nat} {t : TypeId} {cs : Array Value} {row : Option Nat} (h : Blk w g t cs) (hg : w.grownBy w' row) (hr : some g ≠ row) : Blk w' g t cs := (hg.block g h.lt hr).trans h
/-- the reader behind an append to its row, and the store of the new row -/
theorem RSt.put {g k : Nat} {vin v v' : Value} {w w' : World} {o : List Tk} {t : Tk} (h : RSt g vin w k v o) (hg : w.grownBy w' v.ownBlock) (ho : w'.ownsRow (g + 1) 101 3 v' (o.length + 1) (tksCells o ++ tkCells t)) : RSt g vin (w'.setCell ⟨g, 2, none⟩ v') k v' (o ++ [t]) := by
  have hne : some g ≠ v.ownBlock := fun hc => by have := (h.own.lt g hc.symm).1; omega
  exact ⟨(h.blk.grown hg hne).set_ 2 v', own_set (own_snoc ho) 2 v' (Nat.lt_succ_self g)⟩

/-- F has a body -/
def Enters (F : Nat) : Prop := ∀ (args : Array Value) (w : World), Sem.run Tryz.prog (callFunc F args) w = .ok (.enter F args) w
theorem enters_of {F : Nat} {fn : Func} {c : Code} (hf : Tryz.prog.funcs[F]? = some fn) (hn : (fn.name == "runtime.NumGoroutine") = false) (hb : fn.body = some c) : Enters F := fun args w => by
  simp only [beq_eq_false_iff_ne, ne_eq] at hn
  simp [callFunc, go_sem, hf, hn, hb]
theorem enters52 : Enters 68 := enters_of Tryz.func68 (by kernel_rfl) rfl
set_option maxHeartbeats 1000000 in
set_option maxRecDepth 100000 in
theorem operator_ok (ts : List Tk) (g F k k' : Nat) (kd : Int) (vin v : Value) (out o' : List Tk) (w : World) (hk : k + 1 ≤ 1000000) (hS : RSt g vin w k v out) (ho : o'.length ≤ 1000000) (hE : Enters F)
    (HF : ∀ w0, w0 = w.setCell ⟨g, 1, none⟩ (.int .i64 (k + 1 : Nat)) → Calls Tryz.prog F #[.pointer (some ⟨g, 0, none⟩)] w0 (RPost g vin (.ok k' o') v w0)) :
    Calls Tryz.prog 73 #[.pointer (some ⟨g, 0, none⟩), .func (.func F) #[.pointer (some ⟨g, 0, none⟩)] #[], .int .i64 kd] w (RPost g vin (.ok k' (o' ++ [(kd, 0, 0)])) v w) := by
  obtain ⟨i0, hi, hz0, hz1, hz2⟩ := info_parts Tryz.info40
  have HI := Lib.hid hi
  have HZ0 := Lib.hid hz0
  have HZ1 := Lib.hid hz1
  have HZ2 := Lib.hid hz2
  have HH := Lib.hid HF
  have HS := Lib.hid hS
  obtain ⟨⟨c0, c1, c2⟩, f0, f1, f2⟩ := hS.blk.facts3
  clear hi hz0 hz1 hz2 HF hS
  unfold Enters at hE
  go_enter Tryz.func73, Tryz.ntmps73
  go_wp2_with fail
  refine (HH.out _ (by go_num)).mono ?_
  rintro e w1 ⟨rfl, v1, hk1, hS1⟩
  have HK := Lib.hid (((Kept.refl g v w).set 1 _).trans hk1)
  have HS1 := Lib.hid hS1
  have hg := hS1.lt
  obtain ⟨⟨d0, d1, d2⟩, e0, e1, e2⟩ := hS1.blk.facts3
  clear c0 c1 c2 f0 f1 f2 hk1 hS1
  go_wp2_with (at_builtin; refine wpList_append_own_at _ rfl _ _ 74 rfl (g + 1) 101 i0 (.agg #[.int .i64 0, .int .i64 0, .int .i64 0]) 3 24 Tryz.underlying74 HI.out HZ0.out HZ1.out HZ2.out rfl (by decide) _ _ _ rfl (HS1.out.own.alloc _) ⟨w1.heap.size, 0, none⟩ 1 1 (tkCells (kd, 0, 0)) rfl rfl ?c1 ?c2 ?c3 ?c4 ?c5 ?_)
  case c1 => exact new_cells _ _ (kd, 0, 0) _ rfl
  case c2 => exact tk_one _
  case c3 => unfold maxLen; omega
  case c4 => omega
  case c5 => simp; omega
  intro v2 w2 hown hgrow _ hrow
  obtain ⟨g2, cap2, rfl⟩ := slice_of_own hown
  have HA := Lib.hid ((HS1.out.kept ((Below.refl _ _).alloc (Nat.le_refl _) _)).put hgrow hown)
  have HB := Lib.hid (((HK.out.alloc _).grown hgrow (by simpa using hrow)).set 2 (.slice (some ⟨g2, 0, none⟩) (o'.length + 1) cap2))
  have hne : some g ≠ v1.ownBlock := fun hc => by have := (HS1.out.own.lt g hc.symm).1; omega
  obtain ⟨⟨d0, d1, d2⟩, e0, e1, e2⟩ := ((HS1.out.blk.alloc _).grown hgrow hne).facts3
  clear hown hgrow hrow hne
  go_wp2
  go_ret
  exact ⟨rfl, _, HB.out, HA.out⟩
set_option maxHeartbeats 1000000 in
set_option maxRecDepth 100000 in
theorem operator_bad (ts : List Tk) (g F k k' : Nat) (kd : Int) (vin v : Value) (out : List Tk) (w : World) (hk : k + 1 ≤ 1000000) (hS : RSt g vin w k v out) (hE : Enters F)
    (HF : ∀ w0, w0 = w.setCell ⟨g, 1, none⟩ (.int .i64 (k + 1 : Nat)) → Calls Tryz.prog F #[.pointer (some ⟨g, 0, none⟩)] w0 (RPost g vin (.bad k') v w0)) :
    Calls Tryz.prog 73 #[.pointer (some ⟨g, 0, none⟩), .func (.func F) #[.pointer (some ⟨g, 0, none⟩)] #[], .int .i64 kd] w (RPost g vin (.bad k') v w) := by
  have HH := Lib.hid HF
  have HS := Lib.hid hS
  obtain ⟨⟨c0, c1, c2⟩, f0, f1, f2⟩ := hS.blk.facts3
  clear HF hS
  unfold Enters at hE
  go_enter Tryz.func73, Tryz.ntmps73
  go_wp2_with fail
  refine (HH.out _ (by go_num)).mono ?_
  rintro e w1 ⟨rfl, v1, o1, hk1, hS1⟩
  have HK := Lib.hid (((Kept.refl g v w).set 1 _).trans hk1)
  have HS1 := Lib.hid hS1
  clear c0 c1 c2 f0 f1 f2 hk1 hS1
  go_wp2
  go_ret
  exact ⟨rfl, _, _, HK.out, HS1.out⟩
theorem operator_any (ts : List Tk) (g F n lv k : Nat) (kd : Int) (vin v : Value) (out : List Tk) (R : Res) (w : World) (hF : Reads ts g vin n lv F) (hE : Enters F) (hk : k + 1 ≤ ts.length) (hl : ts.length ≤ 1000) (ho : out.length ≤ k)
    (hT : ToksU g w vin ts) (hS : RSt g vin w k v out) (hR : thenR (rd ts n lv (k + 1) out) (fun k o => some (.ok k (o ++ [(kd, 0, 0)]))) = some R) :
    Calls Tryz.prog 73 #[.pointer (some ⟨g, 0, none⟩), .func (.func F) #[.pointer (some ⟨g, 0, none⟩)] #[], .int .i64 kd] w (RPost g vin R v w) := by
  obtain ⟨R1, h1, rfl⟩ := thenR_op hR
  have hb : Below g w (w.setCell ⟨g, 1, none⟩ (.int .i64 (k + 1 : Nat))) := (Below.refl _ _).setCell (by simp) _
  have h := hF (k + 1) out R1 v _ h1 hk (by omega) (hT.below hb) (hS.at_ (k + 1))
  have hf := rd_fits ts n lv (k + 1) out R1 h1 hk
  cases R1 with
  | ok k' o' => exact operator_ok ts g F k k' kd vin v out o' w (by omega) hS (by unfold Fits at hf; omega) hE (fun w0 h0 => h0 ▸ h)
  | bad k' => exact operator_bad ts g F k k' kd vin v out w (by omega) hS hE (fun w0 h0 => h0 ▸ h)
end Go.Proofs.YtmbmijhfoncncaaGreatDoor
