/- The contracts of New, Put, Push, Try, Take, Len and Close, where nobody waits and the lock is free. -/
import Derived.Test.YtmolegodfepmnaaMput
namespace Go.Proofs.Ytmolegodfepmnaa
open Go.ChangeShapes Go.WideShapes Go.ChangeAt Go.RowKit
open Go.MuLone
set_option linter.unusedVariables false

/-- a box that nobody uses just now -/
abbrev FreeAt (w : World) (B b : Nat) (r : Int) (c : Bool) (v : Value) (L : List Int) : Prop := BoxAt w B b 0 r c v L
theorem BoxAt.lock {w : World} {B b : Nat} {r : Int} {c : Bool} {v : Value} {L : List Int} (h : BoxAt w B b 0 r c v L) : BoxAt (w.setCell ⟨b, 0, none⟩ (.int .i32 1)) B b 1 r c v L := h.put 1 r c 0 _ rfl
theorem BoxAt.unlock {w : World} {B b : Nat} {r : Int} {c : Bool} {v : Value} {L : List Int} (h : BoxAt w B b 1 r c v L) : BoxAt (w.setCell ⟨b, 0, none⟩ (.int .i32 0)) B b 0 r c v L := h.put 0 r c 0 _ rfl
theorem new_ok (r : Int) (w : World) (h1 : 1 ≤ r) (h2 : r ≤ 1000) : Calls Try.prog 7 #[.int .i64 r] w fun e w' => e = .returned (.tuple #[.pointer (some ⟨w.heap.size, 0, none⟩), .nilIface]) ∧ FreeAt w' w.heap.size w.heap.size r false (.slice none 0 0) [] ∧ Below w.heap.size w w' := by
  have a1 : ¬ r < 1 := by omega
  have a2 : ¬ 1000 < r := by omega
  go_enter Try.func7, Try.ntmps7
  go_wp2_with fail
  go_ret2
  exact ⟨rfl, ⟨Blk.new w 55 _, .inl ⟨rfl, rfl⟩, Nat.le_refl _⟩, (Below.refl _ w).alloc (Nat.le_refl _) _⟩
theorem new_bad (r : Int) (w : World) (h : r < 1 ∨ 1000 < r) : Calls Try.prog 7 #[.int .i64 r] w fun e w' => e = .returned (.tuple #[.pointer none, codeV 1]) ∧ w' = w := by
  rcases h with h | h
  · go_enter Try.func7, Try.ntmps7
    go_wp2_with fail
    go_ret2
    exact ⟨rfl, rfl⟩
  · have a1 : ¬ r < 1 := by omega
    go_enter Try.func7, Try.ntmps7
    go_wp2_with fail
    go_ret2
    exact ⟨rfl, rfl⟩
theorem neq_12_6 (w : World) : (binOp .neq 26 (codeV 12) (codeV 6)).run Try.prog w = .ok (.bool true) w := by kernel_rfl
theorem neq_nil_6 (w : World) : (binOp .neq 26 .nilIface (codeV 6)).run Try.prog w = .ok (.bool true) w := by kernel_rfl
set_option maxHeartbeats 2000000 in
theorem put_any {w : World} {B b : Nat} {r : Int} {c : Bool} {v : Value} {L : List Int} (h : FreeAt w B b r c v L) (hB : B ≤ w.heap.size) (n : Int) (hl : L.length ≤ 1000000) :
    Calls Try.prog 9 #[.pointer (some ⟨b, 0, none⟩), .int .i64 n] w fun e w' => e = .returned (putE r c L) ∧ ∃ v', FreeAt w' B b r c v' (putL r c L n) ∧ Moved w w' b v v' := by
  have HBX := Lib.hid h.lock
  have HM0 := Lib.hid ((Moved.refl w b v).setCell 0 (.int .i32 1))
  obtain ⟨⟨x0, -, -, -, -, -⟩, f0, -, -⟩ := h.facts
  have hsz : B ≤ (w.setCell ⟨b, 0, none⟩ (.int .i32 1)).heap.size := by simp only [World.setCell, Array.size_modify]; exact hB
  clear h hB
  go_enter_defers Try.func9, Try.ntmps9
  go_wp2_with (first | (go_at_call 16; refine (lock_free muLib ⟨b, 0, none⟩ _ x0 f0).mono ?_; rintro e w' ⟨rfl, rfl⟩) | (go_at_call 18; refine (put_in HBX.out n hsz hl).mono ?_; rintro e w' ⟨rfl, v', hb2, hm2⟩; have HB2 := Lib.hid hb2; have HM2 := Lib.hid hm2; clear hb2 hm2))
  refine leaves_cons (f := 17) (args := #[.pointer (some ⟨b, 0, none⟩)]) (by simp) (by simp [go_sem]) ?_
  refine (unlock_deferred muLib ⟨b, 0, none⟩ .returning _ HB2.out.facts.1.1 HB2.out.facts.2.1).mono ?_
  rintro e u' w'' ⟨rfl, rfl, rfl⟩
  exact ⟨_, results_tmp rfl _ _ _, rfl, _, HB2.out.unlock, (HM0.out.trans HM2.out).setCell 0 _⟩
set_option maxHeartbeats 2000000 in
theorem push_any {w : World} {B b : Nat} {r : Int} {c : Bool} {v : Value} {L : List Int} (h : FreeAt w B b r c v L) (hB : B ≤ w.heap.size) (n : Int) (hl : L.length ≤ 1000000) (hr : c = true ∨ ¬ (L.length : Int) = r) :
    Calls Try.prog 10 #[.pointer (some ⟨b, 0, none⟩), .int .i64 n] w fun e w' => e = .returned (putE r c L) ∧ ∃ v', FreeAt w' B b r c v' (putL r c L n) ∧ Moved w w' b v v' := by
  have hE : putE r c L = codeV 12 ∨ putE r c L = .nilIface := by
    unfold putE
    rcases hr with rfl | hr
    · exact .inl rfl
    · cases c with
      | true => exact .inl rfl
      | false => exact .inr (by rw [if_neg (by simp), if_neg (by simpa using hr)])
  have HBX := Lib.hid h.lock
  have HM0 := Lib.hid ((Moved.refl w b v).setCell 0 (.int .i32 1))
  obtain ⟨⟨x0, -, -, -, -, -⟩, f0, -, -⟩ := h.facts
  have hsz : B ≤ (w.setCell ⟨b, 0, none⟩ (.int .i32 1)).heap.size := by simp only [World.setCell, Array.size_modify]; exact hB
  clear h hB
  have n1 := neq_12_6
  have n2 := neq_nil_6
  rcases hE with hE | hE
  · have HE := Lib.hid hE
    go_enter_defers Try.func10, Try.ntmps10
    go_wp2_with (first | (go_at_call 16; refine (lock_free muLib ⟨b, 0, none⟩ _ x0 f0).mono ?_; rintro e w' ⟨rfl, rfl⟩) | (go_at_call 18; refine (put_in HBX.out n hsz hl).mono ?_; rw [hE]; rintro e w' ⟨rfl, v', hb2, hm2⟩; have HB2 := Lib.hid hb2; have HM2 := Lib.hid hm2; clear hb2 hm2 hE))
    refine leaves_cons (f := 17) (args := #[.pointer (some ⟨b, 0, none⟩)]) (by simp) (by simp [go_sem]) ?_
    refine (unlock_deferred muLib ⟨b, 0, none⟩ .returning _ HB2.out.facts.1.1 HB2.out.facts.2.1).mono ?_
    rintro e u' w'' ⟨rfl, rfl, rfl⟩
    rw [HE.out]
    exact ⟨_, results_tmp rfl _ _ _, rfl, _, HB2.out.unlock, (HM0.out.trans HM2.out).setCell 0 _⟩
  · have HE := Lib.hid hE
    go_enter_defers Try.func10, Try.ntmps10
    go_wp2_with (first | (go_at_call 16; refine (lock_free muLib ⟨b, 0, none⟩ _ x0 f0).mono ?_; rintro e w' ⟨rfl, rfl⟩) | (go_at_call 18; refine (put_in HBX.out n hsz hl).mono ?_; rw [hE]; rintro e w' ⟨rfl, v', hb2, hm2⟩; have HB2 := Lib.hid hb2; have HM2 := Lib.hid hm2; clear hb2 hm2 hE))
    refine leaves_cons (f := 17) (args := #[.pointer (some ⟨b, 0, none⟩)]) (by simp) (by simp [go_sem]) ?_
    refine (unlock_deferred muLib ⟨b, 0, none⟩ .returning _ HB2.out.facts.1.1 HB2.out.facts.2.1).mono ?_
    rintro e u' w'' ⟨rfl, rfl, rfl⟩
    rw [HE.out]
    exact ⟨_, results_tmp rfl _ _ _, rfl, _, HB2.out.unlock, (HM0.out.trans HM2.out).setCell 0 _⟩
set_option maxHeartbeats 2000000 in
theorem len_any {w : World} {B b : Nat} {r : Int} {c : Bool} {v : Value} {L : List Int} (h : FreeAt w B b r c v L) (hB : B ≤ w.heap.size) :
    Calls Try.prog 13 #[.pointer (some ⟨b, 0, none⟩)] w fun e w' => e = .returned (.int .i64 L.length) ∧ ∃ v', FreeAt w' B b r c v' (L) ∧ Moved w w' b v v' := by
  have HBX := Lib.hid h.lock
  have HM0 := Lib.hid ((Moved.refl w b v).setCell 0 (.int .i32 1))
  obtain ⟨⟨x0, -, -, -, -, -⟩, f0, -, -⟩ := h.facts
  have hsz : B ≤ (w.setCell ⟨b, 0, none⟩ (.int .i32 1)).heap.size := by simp only [World.setCell, Array.size_modify]; exact hB
  clear h hB
  obtain ⟨⟨-, -, -, x4, -, -⟩, -, -, -⟩ := HBX.out.facts
  obtain ⟨A, cap, rfl⟩ := HBX.out.slice
  go_enter_defers Try.func13, Try.ntmps13
  go_wp2_with (go_at_call 16; refine (lock_free muLib ⟨b, 0, none⟩ _ x0 f0).mono ?_; rintro e w' ⟨rfl, rfl⟩)
  refine leaves_cons (f := 17) (args := #[.pointer (some ⟨b, 0, none⟩)]) (by simp) (by simp [go_sem]) ?_
  refine (unlock_deferred muLib ⟨b, 0, none⟩ .returning _ HBX.out.facts.1.1 HBX.out.facts.2.1).mono ?_
  rintro e u' w'' ⟨rfl, rfl, rfl⟩
  exact ⟨_, results_tmp rfl _ _ _, rfl, _, HBX.out.unlock, HM0.out.setCell 0 _⟩
set_option maxHeartbeats 2000000 in
theorem try_some {w : World} {B b : Nat} {r : Int} {c : Bool} {v : Value} {L : List Int} {x : Int} (h : FreeAt w B b r c v (x :: L)) (hB : B ≤ w.heap.size) :
    Calls Try.prog 11 #[.pointer (some ⟨b, 0, none⟩)] w fun e w' => e = .returned (.tuple #[.int .i64 x, .bool true]) ∧ ∃ v', FreeAt w' B b r c v' (L) ∧ Moved w w' b v v' := by
  have HBX := Lib.hid h.lock
  have HM0 := Lib.hid ((Moved.refl w b v).setCell 0 (.int .i32 1))
  obtain ⟨⟨x0, -, -, -, -, -⟩, f0, -, -⟩ := h.facts
  have hsz : B ≤ (w.setCell ⟨b, 0, none⟩ (.int .i32 1)).heap.size := by simp only [World.setCell, Array.size_modify]; exact hB
  clear h hB
  go_enter_defers Try.func11, Try.ntmps11
  go_wp2_with (first | (go_at_call 16; refine (lock_free muLib ⟨b, 0, none⟩ _ x0 f0).mono ?_; rintro e w' ⟨rfl, rfl⟩) | (go_at_call 20; refine (tin_some HBX.out).mono ?_; rintro e w' ⟨rfl, v', hb2, hm2⟩; have HB2 := Lib.hid hb2; have HM2 := Lib.hid hm2; clear hb2 hm2))
  refine leaves_cons (f := 17) (args := #[.pointer (some ⟨b, 0, none⟩)]) (by simp) (by simp [go_sem]) ?_
  refine (unlock_deferred muLib ⟨b, 0, none⟩ .returning _ HB2.out.facts.1.1 HB2.out.facts.2.1).mono ?_
  rintro e u' w'' ⟨rfl, rfl, rfl⟩
  exact ⟨_, results_tmp2 rfl _ _ _, rfl, _, HB2.out.unlock, (HM0.out.trans HM2.out).setCell 0 _⟩
set_option maxHeartbeats 2000000 in
theorem try_none {w : World} {B b : Nat} {r : Int} {c : Bool} {v : Value} (h : FreeAt w B b r c v []) (hB : B ≤ w.heap.size) :
    Calls Try.prog 11 #[.pointer (some ⟨b, 0, none⟩)] w fun e w' => e = .returned (.tuple #[.int .i64 0, .bool false]) ∧ ∃ v', FreeAt w' B b r c v' ([]) ∧ Moved w w' b v v' := by
  have HBX := Lib.hid h.lock
  have HM0 := Lib.hid ((Moved.refl w b v).setCell 0 (.int .i32 1))
  obtain ⟨⟨x0, -, -, -, -, -⟩, f0, -, -⟩ := h.facts
  have hsz : B ≤ (w.setCell ⟨b, 0, none⟩ (.int .i32 1)).heap.size := by simp only [World.setCell, Array.size_modify]; exact hB
  clear h hB
  go_enter_defers Try.func11, Try.ntmps11
  go_wp2_with (first | (go_at_call 16; refine (lock_free muLib ⟨b, 0, none⟩ _ x0 f0).mono ?_; rintro e w' ⟨rfl, rfl⟩) | (go_at_call 20; refine (tin_none HBX.out).mono ?_; rintro e w' ⟨rfl, rfl⟩))
  refine leaves_cons (f := 17) (args := #[.pointer (some ⟨b, 0, none⟩)]) (by simp) (by simp [go_sem]) ?_
  refine (unlock_deferred muLib ⟨b, 0, none⟩ .returning _ HBX.out.facts.1.1 HBX.out.facts.2.1).mono ?_
  rintro e u' w'' ⟨rfl, rfl, rfl⟩
  exact ⟨_, results_tmp2 rfl _ _ _, rfl, _, HBX.out.unlock, HM0.out.setCell 0 _⟩
set_option maxHeartbeats 2000000 in
theorem take_some {w : World} {B b : Nat} {r : Int} {c : Bool} {v : Value} {L : List Int} {x : Int} (h : FreeAt w B b r c v (x :: L)) (hB : B ≤ w.heap.size) :
    Calls Try.prog 12 #[.pointer (some ⟨b, 0, none⟩)] w fun e w' => e = .returned (.tuple #[.int .i64 x, .bool true]) ∧ ∃ v', FreeAt w' B b r c v' (L) ∧ Moved w w' b v v' := by
  have HBX := Lib.hid h.lock
  have HM0 := Lib.hid ((Moved.refl w b v).setCell 0 (.int .i32 1))
  obtain ⟨⟨x0, -, -, -, -, -⟩, f0, -, -⟩ := h.facts
  have hsz : B ≤ (w.setCell ⟨b, 0, none⟩ (.int .i32 1)).heap.size := by simp only [World.setCell, Array.size_modify]; exact hB
  clear h hB
  go_enter_defers Try.func12, Try.ntmps12
  go_wp2_with (first | (go_at_call 16; refine (lock_free muLib ⟨b, 0, none⟩ _ x0 f0).mono ?_; rintro e w' ⟨rfl, rfl⟩) | (go_at_call 20; refine (tin_some HBX.out).mono ?_; rintro e w' ⟨rfl, v', hb2, hm2⟩; have HB2 := Lib.hid hb2; have HM2 := Lib.hid hm2; clear hb2 hm2))
  refine leaves_cons (f := 17) (args := #[.pointer (some ⟨b, 0, none⟩)]) (by simp) (by simp [go_sem]) ?_
  refine (unlock_deferred muLib ⟨b, 0, none⟩ .returning _ HB2.out.facts.1.1 HB2.out.facts.2.1).mono ?_
  rintro e u' w'' ⟨rfl, rfl, rfl⟩
  exact ⟨_, results_tmp2 rfl _ _ _, rfl, _, HB2.out.unlock, (HM0.out.trans HM2.out).setCell 0 _⟩
set_option maxHeartbeats 2000000 in
theorem take_none {w : World} {B b : Nat} {r : Int} {v : Value} (h : FreeAt w B b r true v []) (hB : B ≤ w.heap.size) :
    Calls Try.prog 12 #[.pointer (some ⟨b, 0, none⟩)] w fun e w' => e = .returned (.tuple #[.int .i64 0, .bool false]) ∧ ∃ v', FreeAt w' B b r true v' ([]) ∧ Moved w w' b v v' := by
  have HBX := Lib.hid h.lock
  have HM0 := Lib.hid ((Moved.refl w b v).setCell 0 (.int .i32 1))
  obtain ⟨⟨x0, -, -, -, -, -⟩, f0, -, -⟩ := h.facts
  have hsz : B ≤ (w.setCell ⟨b, 0, none⟩ (.int .i32 1)).heap.size := by simp only [World.setCell, Array.size_modify]; exact hB
  clear h hB
  obtain ⟨⟨-, -, y3, -, -, -⟩, -, -, -⟩ := HBX.out.facts
  go_enter_defers Try.func12, Try.ntmps12
  go_wp2_with (first | (go_at_call 16; refine (lock_free muLib ⟨b, 0, none⟩ _ x0 f0).mono ?_; rintro e w' ⟨rfl, rfl⟩) | (go_at_call 20; refine (tin_none HBX.out).mono ?_; rintro e w' ⟨rfl, rfl⟩))
  refine leaves_cons (f := 17) (args := #[.pointer (some ⟨b, 0, none⟩)]) (by simp) (by simp [go_sem]) ?_
  refine (unlock_deferred muLib ⟨b, 0, none⟩ .returning _ HBX.out.facts.1.1 HBX.out.facts.2.1).mono ?_
  rintro e u' w'' ⟨rfl, rfl, rfl⟩
  exact ⟨_, results_tmp2 rfl _ _ _, rfl, _, HBX.out.unlock, HM0.out.setCell 0 _⟩
set_option maxHeartbeats 2000000 in
theorem close_any {w : World} {B b : Nat} {r : Int} {c : Bool} {v : Value} {L : List Int} (h : FreeAt w B b r c v L) (hB : B ≤ w.heap.size) :
    Calls Try.prog 14 #[.pointer (some ⟨b, 0, none⟩)] w fun e w' => e = .returned (.tuple #[]) ∧ ∃ v', FreeAt w' B b r true v' (L) ∧ Moved w w' b v v' := by
  have HBX := Lib.hid h.lock
  have HM0 := Lib.hid ((Moved.refl w b v).setCell 0 (.int .i32 1))
  obtain ⟨⟨x0, -, -, -, -, -⟩, f0, -, -⟩ := h.facts
  have hsz : B ≤ (w.setCell ⟨b, 0, none⟩ (.int .i32 1)).heap.size := by simp only [World.setCell, Array.size_modify]; exact hB
  clear h hB
  have hb1 := HBX.out.put 1 r true 3 (.bool true) rfl
  obtain ⟨⟨-, -, -, -, x5, x6⟩, -, -, -⟩ := hb1.facts
  obtain ⟨⟨-, -, x3, -, -, -⟩, -, f3, -⟩ := HBX.out.facts
  have HB1 := Lib.hid hb1
  clear hb1
  go_enter_defers Try.func14, Try.ntmps14
  go_wp2_with (first | (go_at_call 16; refine (lock_free muLib ⟨b, 0, none⟩ _ x0 f0).mono ?_; rintro e w' ⟨rfl, rfl⟩) | (go_at_call 21; first | (refine (end_any b 5 _ x5).mono ?_; rintro e w' ⟨rfl, rfl⟩; clear x5) | (refine (end_any b 6 _ x6).mono ?_; rintro e w' ⟨rfl, rfl⟩)))
  refine leaves_cons (f := 17) (args := #[.pointer (some ⟨b, 0, none⟩)]) (by simp) (by simp [go_sem]) ?_
  refine (unlock_deferred muLib ⟨b, 0, none⟩ .returning _ HB1.out.facts.1.1 HB1.out.facts.2.1).mono ?_
  rintro e u' w'' ⟨rfl, rfl, rfl⟩
  exact ⟨_, results_none rfl _ _ _, rfl, _, HB1.out.unlock, (HM0.out.setCell 3 _).setCell 0 _⟩
end Go.Proofs.Ytmolegodfepmnaa
