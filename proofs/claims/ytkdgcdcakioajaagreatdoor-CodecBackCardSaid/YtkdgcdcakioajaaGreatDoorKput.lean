/- The contracts of codec's putNumber, putText and putTruth: bytes are put behind a row of bytes that the call owns. -/
import Derived.Test.YtkdgcdcakioajaaGreatDoorCgen
import Derived.Test.YtkdgcdcakioajaaGreatDoorKpure
import Derived.Test.YtkdgcdcakioajaaGreatDoorPopd
import Derived.Lib.AppendStr
import Derived.Lib.BufferWrite
namespace Go.Proofs.YtkdgcdcakioajaaGreatDoor
open Go.ChangeShapes Go.WideShapes Go.ChangeAt Go.RowKit
set_option linter.unusedVariables false

theorem Tryz.info5 : (Tryz.prog.info? 5).map (fun i => (i.zero, i.size, i.bytes)) = some (some (.int .u8 0), 1, 1) := by kernel_rfl
/-- a row of bytes that the call owns -/
def OwnsB (B : Nat) (w : World) (v : Value) (l : List UInt8) : Prop := w.ownsRow B 5 1 v l.length (Lib.byteCells l)
/-- what writing changes: rows of bytes above B, and what is new -/
structure Wrote (B : Nat) (w w' : World) : Prop where
  os : w'.os = w.os
  tape : w'.tape = w.tape
  output : w'.output = w.output
  size : w.heap.size ≤ w'.heap.size
  below : ∀ i, i < B → i < w.heap.size → w'.heap[i]? = w.heap[i]?
  other : ∀ i, i < w.heap.size → (∀ cur, w.heap[i]? ≠ some (.cells cur 5 (0, 0))) → w'.heap[i]? = w.heap[i]?
theorem Wrote.refl (B : Nat) (w : World) : Wrote B w w := ⟨rfl, rfl, rfl, Nat.le_refl _, fun _ _ _ => rfl, fun _ _ _ => rfl⟩
theorem Wrote.trans {B : Nat} {w w1 w2 : World} (h : Wrote B w w1) (k : Wrote B w1 w2) : Wrote B w w2 :=
  ⟨k.os.trans h.os, k.tape.trans h.tape, k.output.trans h.output, Nat.le_trans h.size k.size, fun i hi hw => (k.below i hi (Nat.lt_of_lt_of_le hw h.size)).trans (h.below i hi hw),
    fun i hi hn => (k.other i (Nat.lt_of_lt_of_le hi h.size) (fun cur => by rw [h.other i hi hn]; exact hn cur)).trans (h.other i hi hn)⟩
theorem Wrote.of_below {B : Nat} {w w' : World} (h : Below w.heap.size w w') : Wrote B w w' := ⟨h.os, h.tape, h.output, h.size, fun i _ hw => h.block i hw, fun i hi _ => h.block i hi⟩
theorem Wrote.alloc {B : Nat} {w w' : World} (h : Wrote B w w') (o : Obj) : Wrote B w (w'.alloc o) := h.trans (.of_below ((Below.refl _ _).alloc (Nat.le_refl _) o))
theorem Wrote.grown {B n : Nat} {v : Value} {xs : List Value} {w w1 w2 : World} (h : Wrote B w w1) (ho : w1.ownsRow B 5 1 v n xs) (hg : w1.grownBy w2 v.ownBlock) : Wrote B w w2 := by
  refine h.trans ⟨hg.os, hg.tape, hg.output, hg.size, fun i hi hw => hg.block i hw (fun hc => ?_), fun i hi hn => hg.block i hi (fun hc => ?_)⟩
  · have := (ho.lt i hc.symm).1; omega
  · rcases ho.2 with ⟨rfl, _⟩ | ⟨g, cap, cur, rfl, _, hh, _⟩
    · cases hc
    · injection hc with hc
      exact hn cur (by rw [hc]; exact hh)
theorem Wrote.toBelow {B : Nat} {w w' : World} (h : Wrote B w w') (hB : B ≤ w.heap.size) : Below B w w' := ⟨h.os, h.tape, h.output, h.size, fun i hi => h.below i hi (by omega)⟩
theorem Wrote.blk {B : Nat} {w w' : World} {g : Nat} {t : TypeId} {cs : Array Value} (h : Wrote B w w') (hb : Blk w g t cs) (ht : t ≠ 5) : Blk w' g t cs := by
  refine (h.other g hb.lt (fun cur hc => ?_)).trans hb
  unfold Blk at hb
  rw [hb] at hc
  injection hc with hc
  injection hc with _ hc
  exact ht hc
/-- what a function tells that puts bytes behind a row -/
def WrPost (B : Nat) (l : List UInt8) (w : World) (e : Ending) (w' : World) : Prop := ∃ v', e = .returned v' ∧ Wrote B w w' ∧ OwnsB B w' v' l
theorem WrPost.after {B : Nat} {l : List UInt8} {w w1 : World} {e : Ending} {w' : World} (hb : Wrote B w w1) (h : WrPost B l w1 e w') : WrPost B l w e w' := let ⟨v', h1, h2, h3⟩ := h; ⟨v', h1, hb.trans h2, h3⟩
theorem byte_one (x : Int) : ∀ u ∈ [Value.int .u8 x], u.oneCell' = true := by
  intro u hu
  obtain rfl := List.mem_singleton.1 hu
  rfl
theorem OwnsB.snoc {B : Nat} {w : World} {v : Value} {pre : List UInt8} {y : Nat} {x : Int} (hy : y < 256) (hx : x = (y : Int)) (h : w.ownsRow B 5 1 v (pre.length + 1) (Lib.byteCells pre ++ [Value.int .u8 x])) : OwnsB B w v (pre ++ [y.toUInt8]) := by
  unfold OwnsB
  rw [Lib.byteCells_snoc pre hy, List.length_append, List.length_singleton, ← hx]
  exact h
theorem new_byte (w : World) (x : Value) (t : TypeId) : ∀ j u, [x][j]? = some u → (w.alloc (.cells #[x] t)).cell? ((⟨w.heap.size, 0, none⟩ : Addr).add j) = some u := by
  intro j u hj
  cases j with
  | zero =>
    simp at hj
    subst hj
    exact (Blk.new w t #[x]).cell 0
  | succ j => simp at hj
set_option maxHeartbeats 2000000 in
set_option maxRecDepth 100000 in
theorem putNumber_any (B : Nat) (n : Int) (v : Value) (pre : List UInt8) (w : World) (h0 : okN n) (hB : B ≤ w.heap.size) (ho : OwnsB B w v pre) (hl : pre.length ≤ 2000000) :
    Calls Tryz.prog 22 #[v, .int .i64 n] w (WrPost B (pre ++ encN n) w) := by
  obtain ⟨i0, hi, hz0, hz1, hz2⟩ := info_parts Tryz.info5
  have HI := Lib.hid hi
  have HZ0 := Lib.hid hz0
  have HZ1 := Lib.hid hz1
  have HZ2 := Lib.hid hz2
  clear hi hz0 hz1 hz2
  have hlen := encN_len h0
  obtain ⟨m, rfl⟩ : ∃ m : Nat, n = (m : Int) := ⟨n.toNat, by have := h0.1; omega⟩
  have hm := h0.2
  have e1 : encN (m : Int) = Lib.uvarint m := rfl
  rw [e1] at hlen ⊢
  have HO := Lib.hid ho
  clear ho e1
  go_enter Tryz.func22, Tryz.ntmps22
  go_wp2_with fail
  go_loopw [0, 1] (fun vb vx wr => ∃ (y : Nat) (pre1 : List UInt8), vx = .int .i64 (y : Int) ∧ y ≤ m ∧ pre1.length + (Lib.uvarint y).length = pre.length + (Lib.uvarint m).length ∧ Hid (pre1 ++ Lib.uvarint y = pre ++ Lib.uvarint m) ∧ Hid (Wrote B w wr) ∧ Hid (OwnsB B wr vb pre1) ∧ w.heap.size ≤ wr.heap.size) (fun _ vx _ => (intOf vx).toNat)
  case atStart => exact ⟨m, pre, rfl, Nat.le_refl _, rfl, Lib.hid rfl, Lib.hid (Wrote.refl _ _), HO, Nat.le_refl _⟩
  case round =>
    obtain ⟨y, pre1, rfl, hy, hpl, hU, hW, hown, hws⟩ := hrel
    obtain ⟨wo, rfl⟩ : ∃ wo : World, wo = wr := ⟨_, rfl⟩
    have hyp := Lib.uvarint_pos y
    by_cases h128 : 128 ≤ y
    · have hor : bits .or .u8 ((y % 128 : Nat) : Int) 128 = ((y % 128 + 128 : Nat) : Int) := by
        rw [Lib.u8_or128_any _ (by omega) (by omega)]
        omega
      have hor2 : bits .or .u8 ((y : Int) % 128) 128 = ((y % 128 + 128 : Nat) : Int) := by
        rw [Lib.u8_or128_any _ (by omega) (by omega)]
        omega
      have hge : decide ((128 : Int) ≤ (y : Int)) = true := by simp; omega
      have hmod : ((y : Int) % 128) % 256 = (y : Int) % 128 := by omega
      go_wp2_with (at_builtin; refine wpList_append_own_at _ rfl _ _ 26 rfl B 5 i0 (.int .u8 0) 1 1 Tryz.underlying26 HI.out HZ0.out HZ1.out HZ2.out rfl (by decide) _ _ _ rfl (hown.out.alloc _) ⟨wo.heap.size, 0, none⟩ 1 1 [Value.int .u8 ((y % 128 + 128 : Nat) : Int)] rfl rfl ?c1 ?c2 ?c3 ?c4 ?c5 ?_)
      case c1 => exact new_byte _ _ _
      case c2 => exact byte_one _
      case c3 => unfold maxLen; omega
      case c4 => omega
      case c5 => simp; omega
      intro v' w1 hown' hgrow _ _
      have HW1 := Lib.hid ((hW.out.alloc _).grown (hown.out.alloc _) hgrow)
      have HO1 := Lib.hid (OwnsB.snoc (y := y % 128 + 128) (by omega) rfl hown')
      have hws1 := HW1.out.size
      clear hown' hgrow hW hown
      go_wp2_with fail
      go_roundw
      case rel =>
        have hb := Lib.uvarint_big h128
        refine ⟨y / 128, pre1 ++ [(y % 128 + 128).toUInt8], by go_num, by omega, ?_, Lib.hid ?_, HW1, HO1, hws1⟩
        · rw [hb, List.length_cons] at hpl; simp only [List.length_append, List.length_singleton]; omega
        · rw [← hU.out, hb]; simp
      case measure => simp [intOf]; omega
    · have hsm : Lib.uvarint y = [y.toUInt8] := Lib.uvarint_small (by omega)
      have hge : decide ((128 : Int) ≤ (y : Int)) = false := by simp; omega
      have hmod : (y : Int) % 256 = (y : Int) := by omega
      go_wp2_with (at_builtin; refine wpList_append_own_at _ rfl _ _ 26 rfl B 5 i0 (.int .u8 0) 1 1 Tryz.underlying26 HI.out HZ0.out HZ1.out HZ2.out rfl (by decide) _ _ _ rfl (hown.out.alloc _) ⟨wo.heap.size, 0, none⟩ 1 1 [Value.int .u8 (y : Int)] rfl rfl ?c1 ?c2 ?c3 ?c4 ?c5 ?_)
      case c1 => exact new_byte _ _ _
      case c2 => exact byte_one _
      case c3 => unfold maxLen; omega
      case c4 => omega
      case c5 => simp; omega
      intro v' w1 hown' hgrow _ _
      have HW1 := Lib.hid ((hW.out.alloc _).grown (hown.out.alloc _) hgrow)
      have HO1 := Lib.hid (OwnsB.snoc (y := y) (by omega) rfl hown')
      clear hown' hgrow hW hown
      go_wp2_with fail
      go_ret
      exact ⟨v', rfl, HW1.out, by rw [← hU.out, hsm]; exact HO1.out⟩

set_option maxHeartbeats 1000000 in
set_option maxRecDepth 100000 in
theorem putText_any (B : Nat) (s : ByteArray) (v : Value) (pre : List UInt8) (w : World) (h0 : s.size ≤ 200) (hB : B ≤ w.heap.size) (ho : OwnsB B w v pre) (hl : pre.length ≤ 1000000) :
    Calls Tryz.prog 55 #[v, .string s] w (WrPost B (pre ++ encS s) w) := by
  obtain ⟨i0, hi, hz0, hz1, hz2⟩ := info_parts Tryz.info5
  have HI := Lib.hid hi
  have HZ0 := Lib.hid hz0
  have HZ1 := Lib.hid hz1
  have HZ2 := Lib.hid hz2
  clear hi hz0 hz1 hz2
  have HP := Lib.hid (putNumber_any B (s.size : Int) v pre w ⟨by omega, by omega⟩ hB ho (by omega))
  have hlen := encN_len24 s.size (by omega)
  clear ho
  go_enter Tryz.func55, Tryz.ntmps55
  go_wp2_with fail
  refine HP.out.mono ?_
  rintro e w1 ⟨v1, rfl, hw1, ho1⟩
  have HW1 := Lib.hid hw1
  have HO1 := Lib.hid ho1
  have hs1 := hw1.size
  clear hw1 ho1
  go_wp2_with (at_builtin; refine Lib.wpList_append_own_string _ rfl _ _ 26 9 rfl B 5 i0 Tryz.underlying26 Tryz.underlying9 HI.out HZ0.out HZ1.out HZ2.out _ _ _ rfl HO1.out s rfl ?c3 ?c4 ?c5 ?_)
  case c3 => unfold maxLen; simp only [List.length_append]; omega
  case c4 => simp only [List.length_append]; omega
  case c5 => omega
  intro v' w2 hown' hgrow _
  have HW2 := Lib.hid (HW1.out.grown HO1.out hgrow)
  have HO2 : Hid (OwnsB B w2 v' (pre ++ encS s)) := Lib.hid (by
    have e : Lib.byteCells (pre ++ encS s) = Lib.byteCells (pre ++ encN (s.size : Int)) ++ Lib.strCells s := by
      unfold encS
      rw [← List.append_assoc, Lib.byteCells_append]
      rfl
    have el : (pre ++ encS s).length = (pre ++ encN (s.size : Int)).length + s.size := by
      unfold encS
      have := Lib.size_eq s
      simp only [List.length_append]
      omega
    unfold OwnsB
    rw [e, el, List.length_append]
    exact hown')
  clear hown' hgrow
  go_wp2_with fail
  go_ret
  exact ⟨v', rfl, HW2.out, HO2.out⟩
set_option maxHeartbeats 1000000 in
set_option maxRecDepth 100000 in
theorem putTruth_any (B : Nat) (b : Bool) (v : Value) (pre : List UInt8) (w : World) (hB : B ≤ w.heap.size) (ho : OwnsB B w v pre) (hl : pre.length ≤ 1000000) :
    Calls Tryz.prog 56 #[v, .bool b] w (WrPost B (pre ++ encB b) w) := by
  cases b with
  | true =>
    have HP := Lib.hid (putNumber_any B 1 v pre w ⟨by omega, by omega⟩ hB ho (by omega))
    clear ho
    go_enter Tryz.func56, Tryz.ntmps56
    go_wp2_with fail
    refine HP.out.mono ?_
    rintro e w1 ⟨v1, rfl, hw1, ho1⟩
    have HW1 := Lib.hid hw1
    have HO1 := Lib.hid ho1
    clear hw1 ho1
    go_wp2_with fail
    go_ret
    exact ⟨v1, rfl, HW1.out, HO1.out⟩
  | false =>
    have HP := Lib.hid (putNumber_any B 0 v pre w ⟨by omega, by omega⟩ hB ho (by omega))
    clear ho
    go_enter Tryz.func56, Tryz.ntmps56
    go_wp2_with fail
    refine HP.out.mono ?_
    rintro e w1 ⟨v1, rfl, hw1, ho1⟩
    have HW1 := Lib.hid hw1
    have HO1 := Lib.hid ho1
    clear hw1 ho1
    go_wp2_with fail
    go_ret
    exact ⟨v1, rfl, HW1.out, HO1.out⟩
theorem enters22 : Enters 22 := enters_of Tryz.func22 (by kernel_rfl) rfl
theorem take_flat {α : Type} {f : α → List UInt8} {xs : List α} {k : Nat} {x : α} (h : xs[k]? = some x) : (xs.take (k + 1)).flatMap f = (xs.take k).flatMap f ++ f x := by
  obtain ⟨hk, rfl⟩ := List.getElem?_eq_some_iff.1 h
  rw [List.take_add_one, List.flatMap_append, h]
  simp
theorem flat_take_le {α : Type} {f : α → List UInt8} {xs : List α} {k : Nat} {x : α} (h : xs[k]? = some x) : ((xs.take k).flatMap f).length + (f x).length ≤ (xs.flatMap f).length := by
  have e : xs.flatMap f = (xs.take (k + 1)).flatMap f ++ (xs.drop (k + 1)).flatMap f := by rw [← List.flatMap_append, List.take_append_drop]
  rw [e, take_flat h]
  simp only [List.length_append]
  omega
theorem Wrote.from {W0 w w' : World} (hb : Below W0.heap.size W0 w) (h : Wrote W0.heap.size w w') : Below W0.heap.size W0 w' := hb.trans (h.toBelow hb.size)
set_option maxHeartbeats 2000000 in
set_option maxRecDepth 100000 in
theorem putInts_any (W0 : World) (vl : Value) (xs : List Int) (v : Value) (pre : List UInt8) (w : World) (hx : ∀ x ∈ xs, okN x) (hA : ListAt W0 vl xs) (hb : Below W0.heap.size W0 w) (ho : OwnsB W0.heap.size w v pre) (hl : (pre ++ xs.flatMap encN).length ≤ 1000000) (hs : xs.length ≤ 1000) :
    Calls Tryz.prog 74 #[v, vl, .func (.func 22) #[] #[]] w (WrPost W0.heap.size (pre ++ xs.flatMap encN) w) := by
  have hE := enters22
  unfold Enters at hE
  have HX := Lib.hid hx
  have HA := Lib.hid hA
  have HB := Lib.hid hb
  have HO := Lib.hid ho
  have HL := Lib.hid hl
  obtain ⟨A, cap, rfl, hcap⟩ := RowsAt.slice hA
  clear hx hA hb ho hl
  go_enter Tryz.func74, Tryz.ntmps74
  go_wp2_with fail
  go_loopw [0, 11] (fun vb i wr => ∃ (k : Nat), k ≤ xs.length ∧ i = .int .i64 (k : Int) ∧ Hid (Wrote W0.heap.size w wr) ∧ Hid (OwnsB W0.heap.size wr vb (pre ++ (xs.take k).flatMap encN))) (fun _ i _ => xs.length - (intOf i).toNat)
  case atStart => exact ⟨0, Nat.zero_le _, rfl, Lib.hid (Wrote.refl _ _), by simpa using HO⟩
  case round =>
    obtain ⟨k, hk, rfl, hW, hown⟩ := hrel
    obtain ⟨wo, rfl⟩ : ∃ wo : World, wo = wr := ⟨_, rfl⟩
    by_cases hlt : k < xs.length
    · obtain ⟨A', cap', hv, hc, hi⟩ := HA.out.below (hW.out.from HB.out)
      obtain ⟨x, hx⟩ : ∃ x, xs[k]? = some x := ⟨_, List.getElem?_eq_getElem hlt⟩
      obtain ⟨b, o, hA', hbl, hcell⟩ := hi k x hx
      injection hv with e1 e2 e3
      subst e1
      subst hA'
      unfold IntAt at hcell
      rw [Nat.mul_one] at hcell
      have HN := Lib.hid (putNumber_any W0.heap.size x _ _ wo (HX.out x (List.mem_of_getElem? hx)) (hW.out.from HB.out).size hown.out (by have := flat_take_le (f := encN) hx; have := HL.out; simp only [List.length_append] at *; omega))
      have HT := Lib.hid (take_flat (f := encN) hx)
      clear hi hx hc e3 e2
      go_wp2_with fail
      refine HN.out.mono ?_
      rintro e w1 ⟨v1, rfl, hw1, ho1⟩
      have HW1 := Lib.hid (hW.out.trans hw1)
      have HO1 := Lib.hid ho1
      clear hw1 ho1
      go_wp2_with fail
      go_roundw
      case rel => exact ⟨k + 1, by omega, by go_num, HW1, Lib.hid (by rw [HT.out, ← List.append_assoc]; exact HO1.out)⟩
      case measure => simp [intOf]; omega
    · obtain rfl : k = xs.length := by omega
      have HO1 : Hid (OwnsB W0.heap.size wo u0 (pre ++ xs.flatMap encN)) := Lib.hid (by have := hown.out; rwa [List.take_length] at this)
      go_wp2_with fail
      go_ret
      exact ⟨_, rfl, hW.out, HO1.out⟩

theorem flat_encL {α : Type} (f : α → List UInt8) (pre : List UInt8) (xs : List α) : (pre ++ encN (xs.length : Int)) ++ xs.flatMap f = pre ++ encL f xs := by unfold encL; rw [List.append_assoc]
set_option maxHeartbeats 1000000 in
set_option maxRecDepth 100000 in
theorem putRowInt_any (W0 : World) (vl : Value) (xs : List Int) (v : Value) (pre : List UInt8) (w : World) (hx : ∀ x ∈ xs, okN x) (hA : ListAt W0 vl xs) (hb : Below W0.heap.size W0 w) (ho : OwnsB W0.heap.size w v pre) (hl : (pre ++ encL encN xs).length ≤ 1000000) (hs : xs.length ≤ 1000) :
    Calls Tryz.prog 52 #[v, vl, .func (.func 22) #[] #[]] w (WrPost W0.heap.size (pre ++ encL encN xs) w) := by
  have hl1 : pre.length ≤ 1000000 := by simp only [List.length_append] at hl; omega
  have HP := Lib.hid (putNumber_any W0.heap.size (xs.length : Int) v pre w ⟨by omega, by omega⟩ hb.size ho (by omega))
  have HQ := Lib.hid (fun v1 w1 (hw1 : Wrote W0.heap.size w w1) (ho1 : OwnsB W0.heap.size w1 v1 (pre ++ encN (xs.length : Int))) => putInts_any W0 vl xs v1 _ w1 hx hA (hw1.from hb) ho1 (by rw [flat_encL]; exact hl) hs)
  have HE := Lib.hid (flat_encL encN pre xs)
  obtain ⟨A, cap, rfl, hcap⟩ := RowsAt.slice hA
  clear ho hx hA hb hl
  go_enter Tryz.func52, Tryz.ntmps52
  go_wp2_with fail
  refine HP.out.mono ?_
  rintro e w1 ⟨v1, rfl, hw1, ho1⟩
  have HW1 := Lib.hid hw1
  have HO1 := Lib.hid ho1
  clear hw1 ho1
  go_wp2_with fail
  refine (HQ.out v1 w1 HW1.out HO1.out).mono ?_
  rintro e w2 ⟨v2, rfl, hw2, ho2⟩
  have HW2 := Lib.hid (HW1.out.trans hw2)
  have HO2 := Lib.hid ho2
  clear hw2 ho2
  go_wp2_with fail
  go_ret
  exact ⟨v2, rfl, HW2.out, by rw [← HE.out]; exact HO2.out⟩
abbrev acBoxK (a : Ac) : Obj := .cells #[.int .i64 a.kind, .int .i64 a.n, .int .i64 a.m, .string a.expr] 60
theorem acBoxK_facts {w : World} {g : Nat} {a : Ac} (h : Blk w g 60 #[.int .i64 a.kind, .int .i64 a.n, .int .i64 a.m, .string a.expr]) :
    w.cell? ⟨g, 0, none⟩ = some (.int .i64 a.kind) ∧ w.cell? ⟨g, 1, none⟩ = some (.int .i64 a.n) ∧ w.cell? ⟨g, 2, none⟩ = some (.int .i64 a.m) ∧ w.cell? ⟨g, 3, none⟩ = some (.string a.expr) := ⟨h.cell 0, h.cell 1, h.cell 2, h.cell 3⟩
set_option maxHeartbeats 2000000 in
set_option maxRecDepth 100000 in
theorem putAct_any (B : Nat) (a : Ac) (v : Value) (pre : List UInt8) (w : World) (h0 : okAc a) (hB : B ≤ w.heap.size) (ho : OwnsB B w v pre) (hl : (pre ++ encAc a).length ≤ 1000000) :
    Calls Tryz.prog 54 #[v, .agg #[.int .i64 a.kind, .int .i64 a.n, .int .i64 a.m, .string a.expr]] w (WrPost B (pre ++ encAc a) w) := by
  unfold encAc at hl ⊢
  simp only [List.length_append] at hl
  obtain ⟨k1, k2, k3, k4⟩ := h0
  have HW0 := Lib.hid ((Wrote.refl B w).alloc (acBoxK a))
  have HK := Lib.hid (fun W (h : Wrote B (w.alloc (acBoxK a)) W) => h.blk (Blk.new w 60 #[.int .i64 a.kind, .int .i64 a.n, .int .i64 a.m, .string a.expr]) (by decide))
  have hB0 : B ≤ (w.alloc (acBoxK a)).heap.size := by simp; omega
  have HP := Lib.hid (putNumber_any B a.kind v pre (w.alloc (acBoxK a)) k1 hB0 (ho.alloc _) (by omega))
  have HQ := Lib.hid (fun v1 W (h : Wrote B (w.alloc (acBoxK a)) W) (ho1 : OwnsB B W v1 (pre ++ encN a.kind)) => putNumber_any B a.n v1 _ W k2 (Nat.le_trans hB0 h.size) ho1 (by simp only [List.length_append]; omega))
  have HR := Lib.hid (fun v1 W (h : Wrote B (w.alloc (acBoxK a)) W) (ho1 : OwnsB B W v1 (pre ++ encN a.kind ++ encN a.n)) => putNumber_any B a.m v1 _ W k3 (Nat.le_trans hB0 h.size) ho1 (by simp only [List.length_append]; omega))
  have HS := Lib.hid (fun v1 W (h : Wrote B (w.alloc (acBoxK a)) W) (ho1 : OwnsB B W v1 (pre ++ encN a.kind ++ encN a.n ++ encN a.m)) => putText_any B a.expr v1 _ W k4 (Nat.le_trans hB0 h.size) ho1 (by simp only [List.length_append]; omega))
  obtain ⟨c0, c1, c2, c3⟩ := acBoxK_facts (Blk.new w 60 #[.int .i64 a.kind, .int .i64 a.n, .int .i64 a.m, .string a.expr])
  clear ho k1 k2 k3 k4
  go_enter Tryz.func54, Tryz.ntmps54
  go_wp2_with fail
  refine HP.out.mono ?_
  rintro e w1 ⟨v1, rfl, hw1, ho1⟩
  have HW1 := Lib.hid hw1
  have HO1 := Lib.hid ho1
  clear hw1 ho1 c0 c1 c2 c3
  obtain ⟨c0, c1, c2, c3⟩ := acBoxK_facts (HK.out _ HW1.out)
  go_wp2_with fail
  refine (HQ.out _ _ HW1.out HO1.out).mono ?_
  rintro e w2 ⟨v2, rfl, hw2, ho2⟩
  have HW2 := Lib.hid (HW1.out.trans hw2)
  have HO2 := Lib.hid ho2
  clear hw2 ho2 c0 c1 c2 c3
  obtain ⟨c0, c1, c2, c3⟩ := acBoxK_facts (HK.out _ HW2.out)
  go_wp2_with fail
  refine (HR.out _ _ HW2.out HO2.out).mono ?_
  rintro e w3 ⟨v3, rfl, hw3, ho3⟩
  have HW3 := Lib.hid (HW2.out.trans hw3)
  have HO3 := Lib.hid ho3
  clear hw3 ho3 c0 c1 c2 c3
  obtain ⟨c0, c1, c2, c3⟩ := acBoxK_facts (HK.out _ HW3.out)
  go_wp2_with fail
  refine (HS.out _ _ HW3.out HO3.out).mono ?_
  rintro e w4 ⟨v4, rfl, hw4, ho4⟩
  have HW4 := Lib.hid (HW3.out.trans hw4)
  have HO4 := Lib.hid ho4
  clear hw4 ho4 c0 c1 c2 c3
  go_wp2_with fail
  go_ret
  exact ⟨v4, rfl, HW0.out.trans HW4.out, by simpa only [List.append_assoc] using HO4.out⟩
end Go.Proofs.YtkdgcdcakioajaaGreatDoor
