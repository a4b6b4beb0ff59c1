/- The contracts of a box's methods, where nobody waits and the lock is free. -/
import Derived.Test.YtmolegodfepmnaaMbox
namespace Go.Proofs.Ytmolegodfepmnaa
open Go.ChangeShapes Go.WideShapes Go.ChangeAt Go.RowKit
open Go.MuLone
set_option linter.unusedVariables false

abbrev codeV (k : Int) : Value := .iface 29 (.int .i64 k)
/-- what a Put tells -/
def putE (r : Int) (c : Bool) (L : List Int) : Value := if c then codeV 12 else if (L.length : Int) == r then codeV 6 else .nilIface
/-- what waits behind a Put -/
def putL (r : Int) (c : Bool) (L : List Int) (n : Int) : List Int := if c then L else if (L.length : Int) == r then L else L ++ [n]
set_option maxHeartbeats 2000000 in
theorem put_in {w : World} {B b : Nat} {s r : Int} {c : Bool} {v : Value} {L : List Int} (h : BoxAt w B b s r c v L) (n : Int) (hB : B ≤ w.heap.size) (hl : L.length ≤ 1000000) :
    Calls Try.prog 18 #[.pointer (some ⟨b, 0, none⟩), .int .i64 n] w fun e w' => e = .returned (putE r c L) ∧ ∃ v', BoxAt w' B b s r c v' (putL r c L n) ∧ Moved w w' b v v' := by
  have HBX := Lib.hid h
  obtain ⟨A, cap, rfl⟩ := h.slice
  obtain ⟨⟨x0, x2, x3, x4, x5, x6⟩, f0, f3, f4⟩ := h.facts
  clear h
  cases c with
  | true =>
    go_enter Try.func18, Try.ntmps18
    go_wp2_with fail
    go_ret
    exact ⟨rfl, _, HBX.out, Moved.refl _ _ _⟩
  | false =>
    by_cases hr : (L.length : Int) = r
    · have hr' : ((L.length : Int) == r) = true := by simpa using hr
      have hE : putE r false L = codeV 6 := by unfold putE; rw [hr']; rfl
      have hLL : putL r false L n = L := by unfold putL; rw [hr']; rfl
      have HE := Lib.hid hE
      have HL := Lib.hid hLL
      clear hE hLL hr
      go_enter Try.func18, Try.ntmps18
      go_wp2_with (go_quiet (fail))
      go_ret
      rw [HE.out, HL.out]
      exact ⟨rfl, _, HBX.out.drewN _, (Moved.refl w b _).drewN _⟩
    · have hr' : ((L.length : Int) == r) = false := by simpa using hr
      have hE : putE r false L = .nilIface := by unfold putE; rw [hr']; rfl
      have hLL : putL r false L n = L ++ [n] := by unfold putL; rw [hr']; rfl
      have HE := Lib.hid hE
      have HL := Lib.hid hLL
      clear hE hLL hr
      go_enter Try.func18, Try.ntmps18
      go_wp2_with (go_quiet (fail))
      refine (next_any b 6 _ (HBX.out.drewN _).facts.1.2.2.2.2.2).mono ?_
      rintro e w2 ⟨rfl, rfl⟩
      have HB1 := Lib.hid (HBX.out.drewN nq)
      have HM1 := Lib.hid ((Moved.refl w b (.slice A L.length cap)).drewN nq)
      have hs1 : B ≤ (w.drewN nq).heap.size := hB
      clear HBX hB x0 x2 x3 x4 x5 x6 f0 f3 f4
      generalize w.drewN nq = wo at *
      have HB6 := Lib.hid (HB1.out.alloc (.cells #[.int .i64 n] 3))
      have HM6 := Lib.hid (HM1.out.alloc (.cells #[.int .i64 n] 3))
      have HN6 := Lib.hid ((Blk.new wo 3 #[.int .i64 n]).cell 0)
      have hs6 : B ≤ (wo.alloc (.cells #[.int .i64 n] 3)).heap.size := by simp; omega
      obtain ⟨⟨-, -, -, y4, -, -⟩, -, -, -⟩ := HB1.out.facts
      obtain ⟨iI, ki, kz0, kz1, kz2⟩ := info_parts Try.info3
      have KI := Lib.hid ki
      have KZ0 := Lib.hid kz0
      have KZ1 := Lib.hid kz1
      have KZ2 := Lib.hid kz2
      clear ki kz0 kz1 kz2
      go_wp2_with (at_builtin; refine wpList_append_in rfl _ _ 30 rfl B 3 iI (.int .i64 0) 8 Try.underlying30 KI.out KZ0.out KZ1.out KZ2.out rfl _ L rfl HB6.out.nums ⟨wo.heap.size, 0, none⟩ 1 n rfl HN6.out ?c3 ?c4 ?c5 ?_)
      case c3 => unfold maxLen; omega
      case c4 => omega
      case c5 => exact hs6
      intro v7 w7 hin7 hg7 hn7
      have hb7 := HB6.out.blk.grown hg7 (Ne.symm (HB6.out.nums.else_ HB6.out.blk (by decide)))
      have HM7 := Lib.hid (HM6.out.trans (Moved.of_grown (b := b) hg7 (by simpa using hn7)))
      obtain ⟨A7, c7, rfl⟩ := hin7.slice
      have HB7 := Lib.hid hb7
      have HI7 := Lib.hid hin7
      have z4 := hb7.cell 4
      have g4 := hb7.frozen 4
      have hle := HB1.out.le
      clear hin7 hg7 hn7 hb7 HB6 HM6 HN6 HB1 HM1 y4 hs6
      simp only [List.length_append, List.length_singleton] at HB7 HI7 HM7
      go_wp2_with fail
      go_ret
      rw [HE.out, HL.out]
      exact ⟨rfl, _, ⟨HB7.out.set_ 4 _, HI7.out.apart HB7.out (by decide) 4 _, hle⟩, HM7.out.setCell 4 _⟩

theorem tin_none {w : World} {B b : Nat} {s r : Int} {c : Bool} {v : Value} (h : BoxAt w B b s r c v []) :
    Calls Try.prog 20 #[.pointer (some ⟨b, 0, none⟩)] w fun e w' => e = .returned (.tuple #[.int .i64 0, .bool false]) ∧ w' = w := by
  obtain ⟨A, cap, rfl⟩ := h.slice
  obtain ⟨⟨x0, x2, x3, x4, x5, x6⟩, f0, f3, f4⟩ := h.facts
  clear h
  go_enter Try.func20, Try.ntmps20
  go_wp2_with fail
  go_ret2
  exact ⟨rfl, rfl⟩
set_option maxHeartbeats 2000000 in
theorem tin_some {w : World} {B b : Nat} {s r : Int} {c : Bool} {v : Value} {x : Int} {L : List Int} (h : BoxAt w B b s r c v (x :: L)) :
    Calls Try.prog 20 #[.pointer (some ⟨b, 0, none⟩)] w fun e w' => e = .returned (.tuple #[.int .i64 x, .bool true]) ∧ ∃ v', BoxAt w' B b s r c v' L ∧ Moved w w' b v v' := by
  have HBX := Lib.hid h
  obtain ⟨A, cap, rfl⟩ := h.slice
  obtain ⟨⟨x0, x2, x3, x4, x5, x6⟩, f0, f3, f4⟩ := h.facts
  have hl : (((x :: L).length : Nat) == 0) = false := rfl
  clear h
  go_enter Try.func20, Try.ntmps20
  go_wp2_with (go_at_call 32; refine (tf_any HBX.out).mono ?_; rintro e w' ⟨rfl, v', hb, hm⟩; obtain ⟨⟨y0, y2, y3, y4, y5, y6⟩, g0, g3, g4⟩ := hb.facts; have HB2 := Lib.hid hb; have HM2 := Lib.hid hm; clear hb hm)
  refine (next_any b 5 _ y5).mono ?_
  rintro e w3 ⟨rfl, rfl⟩
  go_wp2_with fail
  go_ret2
  exact ⟨rfl, _, HB2.out, HM2.out⟩
end Go.Proofs.Ytmolegodfepmnaa
