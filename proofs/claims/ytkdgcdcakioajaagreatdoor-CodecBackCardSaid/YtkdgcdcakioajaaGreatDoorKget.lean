/- The contracts of codec's numberOf and of its reader's upTo: the number that bytes begin with. -/
import Derived.Test.YtkdgcdcakioajaaGreatDoorKput
import Derived.RegionTactic
import Derived.Deep.RegionWith
namespace Go.Proofs.YtkdgcdcakioajaaGreatDoor
open Go.ChangeShapes Go.WideShapes Go.ChangeAt Go.RowKit
set_option linter.unusedVariables false

def ByteAt (w : World) (b o : Nat) (x : UInt8) : Prop := w.cell? ⟨b, o, none⟩ = some (.int .u8 (x.toNat : Int))
theorem ByteAt.keeps : Keeps ByteAt := fun w w' b o x hb hlt h => (hb.cell (p := ⟨b, o, none⟩) hlt).trans h
/-- a slice value that holds these bytes -/
def BytesAt (w : World) (v : Value) (l : List UInt8) : Prop := RowsAt 1 ByteAt w v l
theorem BytesAt.below {w w' : World} {v : Value} {l : List UInt8} (h : BytesAt w v l) (hb : Below w.heap.size w w') : BytesAt w' v l := RowsAt.below ByteAt.keeps h hb
theorem or_shift {n d j : Nat} (h : n < 128 ^ j) : n ||| (d * 128 ^ j) = n + d * 128 ^ j := by
  have e : (128 : Nat) ^ j = 2 ^ (7 * j) := by rw [Nat.pow_mul]
  rw [e] at h ⊢
  rw [Nat.mul_comm d, Nat.or_comm, ← Nat.two_pow_add_eq_or_of_lt h, Nat.add_comm]
theorem numF_nil (m i n : Nat) : numF m [] i n = (0, 0) := by cases m <;> rfl
theorem drop_cons {l : List UInt8} {j : Nat} (h : j < l.length) : l.drop j = l[j] :: l.drop (j + 1) := List.drop_eq_getElem_cons h
theorem wrap_i64 (n : Int) (h0 : 0 ≤ n) (h1 : n < 2 ^ 62) : IntKind.i64.wrap n = n := by
  simp [IntKind.wrap, IntKind.bits, IntKind.signed] at h1 ⊢
  omega
theorem pow_small {j : Nat} (h : j ≤ 4) : 128 ^ j ≤ 268435456 := Nat.le_trans (Nat.pow_le_pow_right (by decide) h) (by decide)
theorem bits_step {j nn : Nat} (c : Nat) (hj : j ≤ 4) (hn : nn < 128 ^ j) : bits .or .i64 (nn : Int) (wrap64 ((c : Int) % 128 * 2 ^ (7 * j))) = ((nn + c % 128 * 128 ^ j : Nat) : Int) := by
  have hp := pow_small hj
  have hb : c % 128 * 128 ^ j < 2 ^ 62 := by
    have h1 : c % 128 ≤ 127 := by omega
    have := Nat.mul_le_mul h1 hp
    omega
  have e : ((c : Int) % 128 * 2 ^ (7 * j)) = ((c % 128 * 128 ^ j : Nat) : Int) := by
    rw [Int.pow_mul]
    simp
  have ew : wrap64 ((c % 128 * 128 ^ j : Nat) : Int) = ((c % 128 * 128 ^ j : Nat) : Int) := by
    unfold wrap64
    have : (c % 128 * 128 ^ j : Nat) < 4611686018427387904 := hb
    omega
  rw [e, ew, (bits_nat .i64 62 (by decide) wrap_i64 nn _ (by omega) hb).2, or_shift hn]
theorem step_lt {j nn : Nat} (c : Nat) (hj : j ≤ 4) (hn : nn < 128 ^ j) : nn + c % 128 * 128 ^ j < 128 ^ (j + 1) := by
  have h1 : c % 128 ≤ 127 := by omega
  have := Nat.mul_le_mul_right (128 ^ j) h1
  rw [Nat.pow_succ]
  omega
set_option maxHeartbeats 1000000 in
set_option maxRecDepth 100000 in
theorem numberOf_any (v : Value) (l : List UInt8) (w : World) (hA : BytesAt w v l) (hl : l.length ≤ 1000000) :
    Calls Tryz.prog 76 #[v] w fun e w' => e = .returned (.tuple #[.int .i64 ((numOf l).1 : Int), .int .i64 ((numOf l).2 : Int)]) ∧ w = w' := by
  obtain ⟨A, cap, rfl, hcap, hi⟩ := hA
  have HI := Lib.hid hi
  have hR : numOf l = numOf l := rfl
  conv at hR => rhs; unfold numOf
  generalize numOf l = R at *
  have HR := Lib.hid hR
  clear hi hR
  go_enter Tryz.func76, Tryz.ntmps76
  go_wp2_with fail
  · have h5 : 5 ≤ l.length := by omega
    go_loopw [4, 13] (fun n i wr => ∃ (j nn : Nat), j ≤ 5 ∧ i = .int .i64 (j : Int) ∧ n = .int .i64 (nn : Int) ∧ nn < 128 ^ j ∧ Hid (numF (5 - j) (l.drop j) j nn = R) ∧ w = wr) (fun _ i _ => 5 - (intOf i).toNat)
    case atStart => exact ⟨0, 0, Nat.zero_le _, rfl, rfl, by decide, Lib.hid (by rw [HR.out]; rfl), rfl⟩
    case round =>
      obtain ⟨j, nn, hj, rfl, rfl, hnn, hN, rfl⟩ := hrel
      by_cases hlt : j < 5
      · obtain ⟨b, o, rfl, hbl, hcell⟩ := HI.out j l[j] (List.getElem?_eq_getElem (by omega))
        unfold ByteAt at hcell
        rw [Nat.mul_one] at hcell
        have hj4 : j ≤ 4 := by omega
        have hc := l[j].toNat_lt
        rw [drop_cons (by omega), show 5 - j = (4 - j) + 1 by omega, numF] at hN
        generalize l[j].toNat = c at *
        have hbits := bits_step c hj4 hnn
        by_cases h0 : c = 0 ∧ 0 < j
        · obtain ⟨rfl, hj0⟩ := h0
          rw [if_pos ⟨rfl, hj0⟩] at hN
          have hRR := hN.out
          clear hN hbits
          subst hRR
          go_wp2_with fail
          go_ret2
          exact ⟨rfl, rfl⟩
        · rw [if_neg h0] at hN
          have h0c : ¬ c = 0 ∨ (c = 0 ∧ j = 0) := by omega
          by_cases h1 : c < 128
          · rw [if_pos h1] at hN
            have hRR := hN.out
            clear hN
            subst hRR
            rcases h0c with hz | hz
            · go_wp2_with fail
              go_ret2
              exact ⟨ret_two rfl (by simp), rfl⟩
            · have hz1 : ((c : Int) == 0) = true := by simp; omega
              have hz2 : decide ((0 : Int) < (j : Int)) = false := by simp; omega
              clear hz
              go_wp2_with fail
              · exfalso
                have := of_decide_eq_false hz2
                omega
              · go_ret2
                exact ⟨ret_two rfl (by simp), rfl⟩
          · rw [if_neg h1] at hN
            have hlt2 := step_lt c hj4 hnn
            rw [show 4 - j = 5 - (j + 1) by omega] at hN
            have hz : ¬ c = 0 := by omega
            go_wp2_with fail
            go_roundw
            case rel => exact ⟨j + 1, _, by omega, by go_num, rfl, hlt2, hN, trivial⟩
            case measure => simp [intOf]; omega
      · obtain rfl : j = 5 := by omega
        have hRR : R = (0, 0) := by rw [← hN.out]; rfl
        subst hRR
        clear hN
        go_wp2_with fail
        go_ret2
        exact ⟨rfl, rfl⟩
  · have h5 : l.length ≤ 5 := by omega
    go_loopw [4, 13] (fun n i wr => ∃ (j nn : Nat), j ≤ l.length ∧ i = .int .i64 (j : Int) ∧ n = .int .i64 (nn : Int) ∧ nn < 128 ^ j ∧ Hid (numF (5 - j) (l.drop j) j nn = R) ∧ w = wr) (fun _ i _ => l.length - (intOf i).toNat)
    case atStart => exact ⟨0, 0, Nat.zero_le _, rfl, rfl, by decide, Lib.hid (by rw [HR.out]; rfl), rfl⟩
    case round =>
      obtain ⟨j, nn, hj, rfl, rfl, hnn, hN, rfl⟩ := hrel
      by_cases hlt : j < l.length
      · obtain ⟨b, o, rfl, hbl, hcell⟩ := HI.out j l[j] (List.getElem?_eq_getElem (by omega))
        unfold ByteAt at hcell
        rw [Nat.mul_one] at hcell
        have hj4 : j ≤ 4 := by omega
        have hc := l[j].toNat_lt
        rw [drop_cons (by omega), show 5 - j = (4 - j) + 1 by omega, numF] at hN
        generalize l[j].toNat = c at *
        have hbits := bits_step c hj4 hnn
        by_cases h0 : c = 0 ∧ 0 < j
        · obtain ⟨rfl, hj0⟩ := h0
          rw [if_pos ⟨rfl, hj0⟩] at hN
          have hRR := hN.out
          clear hN hbits
          subst hRR
          go_wp2_with fail
          go_ret2
          exact ⟨rfl, rfl⟩
        · rw [if_neg h0] at hN
          have h0c : ¬ c = 0 ∨ (c = 0 ∧ j = 0) := by omega
          by_cases h1 : c < 128
          · rw [if_pos h1] at hN
            have hRR := hN.out
            clear hN
            subst hRR
            rcases h0c with hz | hz
            · go_wp2_with fail
              go_ret2
              exact ⟨ret_two rfl (by simp), rfl⟩
            · have hz1 : ((c : Int) == 0) = true := by simp; omega
              have hz2 : decide ((0 : Int) < (j : Int)) = false := by simp; omega
              clear hz
              go_wp2_with fail
              · exfalso
                have := of_decide_eq_false hz2
                omega
              · go_ret2
                exact ⟨ret_two rfl (by simp), rfl⟩
          · rw [if_neg h1] at hN
            have hlt2 := step_lt c hj4 hnn
            rw [show 4 - j = 5 - (j + 1) by omega] at hN
            have hz : ¬ c = 0 := by omega
            go_wp2_with fail
            go_roundw
            case rel => exact ⟨j + 1, _, by omega, by go_num, rfl, hlt2, hN, trivial⟩
            case measure => simp [intOf]; omega
      · obtain rfl : j = l.length := by omega
        have hRR : R = (0, 0) := by rw [← hN.out]; rw [List.drop_length, numF_nil]
        subst hRR
        clear hN
        go_wp2_with fail
        go_ret2
        exact ⟨rfl, rfl⟩

/-- how the reader stands -/
def RdAt (g : Nat) (vin : Value) (w : World) (s : RS) : Prop := Blk w g 49 #[vin, .int .i64 (s.1 : Int), .int .i64 s.2]
/-- what a call of the reader's tells: only the reader's block has changed of what was there -/
def RPost' {α : Type} (g : Nat) (vin : Value) (R : α × RS) (val : α → Value) (w : World) (e : Ending) (w' : World) : Prop := e = .returned (val R.1) ∧ w.grownBy w' (some g) ∧ RdAt g vin w' R.2
theorem numF_small : ∀ (m : Nat) (l : List UInt8) (i n : Nat), n < 128 ^ i → (numF m l i n).1 < 128 ^ (i + m)
  | 0, l, i, n, h => Nat.pow_pos (by decide)
  | m + 1, [], i, n, h => Nat.pow_pos (by decide)
  | m + 1, c :: r, i, n, h => by
    have h2 : n + c.toNat % 128 * 128 ^ i < 128 ^ (i + 1) := by
      have h1 : c.toNat % 128 ≤ 127 := by omega
      have := Nat.mul_le_mul_right (128 ^ i) h1
      rw [Nat.pow_succ]
      omega
    rw [numF]
    split
    · exact Nat.pow_pos (by decide)
    · split
      · exact Nat.lt_of_lt_of_le h2 (Nat.pow_le_pow_right (by decide) (by omega))
      · have := numF_small m r (i + 1) _ h2
        rwa [show i + 1 + m = i + (m + 1) by omega] at this
theorem numOf_small (l : List UInt8) : (numOf l).1 < 34359738368 := numF_small 5 l 0 0 (by decide)
theorem grown_refl (w : World) (r : Option Nat) : w.grownBy w r := ⟨rfl, rfl, rfl, Nat.le_refl _, fun _ _ _ => rfl⟩
theorem grown_trans {w w1 w2 : World} {r : Option Nat} (h : w.grownBy w1 r) (k : w1.grownBy w2 r) : w.grownBy w2 r :=
  ⟨k.os.trans h.os, k.tape.trans h.tape, k.output.trans h.output, Nat.le_trans h.size k.size, fun i hi hn => (k.block i (Nat.lt_of_lt_of_le hi h.size) hn).trans (h.block i hi hn)⟩
theorem grown_set {w w1 : World} {g : Nat} (h : w.grownBy w1 (some g)) (i : Nat) (u : Value) : w.grownBy (w1.setCell ⟨g, i, none⟩ u) (some g) :=
  ⟨h.os, h.tape, h.output, by simpa using h.size, fun j hj hn => (Below.heap_setCell w1 ⟨g, i, none⟩ u j (fun hc => hn (by rw [hc]))).trans (h.block j hj hn)⟩
theorem grown_drewN {w w1 : World} {r : Option Nat} (h : w.grownBy w1 r) (n : Nat) : w.grownBy (w1.drewN n) r := ⟨h.os, h.tape, h.output, h.size, h.block⟩
theorem grown_below {W0 w w1 : World} {g : Nat} (hb : Below W0.heap.size W0 w) (hg : W0.heap.size ≤ g) (h : w.grownBy w1 (some g)) : Below W0.heap.size W0 w1 :=
  ⟨h.os.trans hb.os, h.tape.trans hb.tape, h.output.trans hb.output, Nat.le_trans hb.size h.size, fun i hi => (h.block i (Nat.lt_of_lt_of_le hi hb.size) (fun hc => by injection hc with hc; omega)).trans (hb.block i hi)⟩
theorem bytes_drop {w : World} {X Y : Option Addr} {len cap k c cap' : Nat} {l : List UInt8} (h : BytesAt w (.slice X len cap) l) (hl : l.length = k + c) (hcap : c ≤ cap') (hY : ∀ b o, X = some ⟨b, o, none⟩ → 0 < c → Y = some ⟨b, o + k, none⟩) : BytesAt w (.slice Y c cap') (l.drop k) := by
  obtain ⟨A, cap1, hv, hc, hi⟩ := h
  injection hv with h1 h2 h3
  subst h1
  refine ⟨Y, cap', by rw [List.length_drop, hl, Nat.add_sub_cancel_left], by rw [List.length_drop]; omega, fun i x hx => ?_⟩
  rw [List.getElem?_drop] at hx
  have hlt := (List.getElem?_eq_some_iff.1 hx).1
  obtain ⟨b, o, hA, hb, hcell⟩ := hi (k + i) x hx
  refine ⟨b, o + k, hY b o hA (by omega), hb, ?_⟩
  rw [show o + k + i * 1 = o + (k + i) * 1 by omega]
  exact hcell
set_option maxHeartbeats 400000 in
set_option maxRecDepth 100000 in
theorem upTo_any (W0 : World) (vin : Value) (l : List UInt8) (g : Nat) (most above : Int) (s : RS) (w : World) (hA : BytesAt W0 vin l) (hb : Below W0.heap.size W0 w) (hg : W0.heap.size ≤ g) (hS : RdAt g vin w s) (hk : s.1 ≤ l.length) (hl : l.length ≤ 1000000) (h0 : 0 ≤ most) (h1 : most ≤ 2147483647) :
    Calls Tryz.prog 57 #[.pointer (some ⟨g, 0, none⟩), .int .i64 most, .int .i64 above] w (RPost' g vin (upToP l most above s) (fun x => .int .i64 x) w) := by
  obtain ⟨k, f⟩ := s
  have HS := Lib.hid hS
  unfold RdAt at hS
  obtain ⟨⟨c0, c1, c2⟩, f0, f1, f2⟩ := hS.facts3
  have hR : upToP l most above (k, f) = upToP l most above (k, f) := rfl
  conv at hR => rhs; unfold upToP
  generalize upToP l most above (k, f) = R at *
  simp only at hk hR
  by_cases hf : f = 0
  · subst hf
    rw [if_neg (by simp)] at hR
    have HA := Lib.hid (hA.below hb)
    obtain ⟨A, cap, rfl, hcap, _⟩ := hA
    obtain ⟨c, hc⟩ : ∃ c, l.length = k + c := ⟨l.length - k, by omega⟩
    rw [hc] at c0 hcap HS HA
    have HN := Lib.hid (fun Y cap' (W : World) (hW : BytesAt W (.slice Y c cap') (l.drop k)) => numberOf_any _ (l.drop k) W hW (by simp only [List.length_drop]; omega))
    generalize hnum : numOf (l.drop k) = N at *
    obtain ⟨x, n⟩ := N
    simp only at hR HN
    have HNUM := Lib.hid hnum
    clear hnum hS
    have e5 : (k : Int) ≤ (k : Int) + (c : Int) := by omega
    have e10 : k ≤ cap := by omega
    have e11 : (k : Int) ≤ (cap : Int) := by omega
    have hx63 : (x : Int) ≤ 34359738368 := by have := numOf_small (l.drop k); rw [HNUM.out] at this; simp only at this; omega
    have hn5 : n ≤ 1000000 := by have := numOf_le (l.drop k); rw [HNUM.out, List.length_drop] at this; simp only at this; omega
    have hcut : ∃ P : Option Addr, (∀ W, BytesAt W (.slice A (k + c) cap) l → BytesAt W (.slice P c (cap - k)) (l.drop k)) ∧ ((A = none ∧ P = none) ∨ (P = A ∧ cap = k) ∨ (∃ a, A = some a ∧ P = some (a.add k) ∧ ¬ cap = k)) := by
      cases A with
      | none => exact ⟨none, fun W hW => bytes_drop hW hc (by omega) (fun b o h => by cases h), .inl ⟨rfl, rfl⟩⟩
      | some a =>
        by_cases hck : cap = k
        · exact ⟨some a, fun W hW => bytes_drop hW hc (by omega) (fun b o h h0 => by omega), .inr (.inl ⟨rfl, hck⟩)⟩
        · refine ⟨some (a.add k), fun W hW => bytes_drop hW hc (by omega) (fun b o h h0 => ?_), .inr (.inr ⟨a, rfl, rfl, hck⟩)⟩
          injection h with h
          subst h
          unfold Addr.add
          by_cases hk0 : k = 0 <;> simp [hk0]
    obtain ⟨P, hP, hcase⟩ := hcut
    have HB := Lib.hid (fun m => (HN.out P (cap - k) (w.drewN m) (hP (w.drewN m) HA.out)).mono (fun e w' (h : e = Ending.returned (.tuple #[.int .i64 (x : Int), .int .i64 (n : Int)]) ∧ w.drewN m = w') => (⟨h.1, h.2.symm⟩ : e = Ending.returned (.tuple #[.int .i64 (x : Int), .int .i64 (n : Int)]) ∧ w' = w.drewN m)))
    clear hP HN
    by_cases ha : n = 0 ∨ 2147483647 < (x : Int)
    · rw [if_pos ha] at hR
      subst hR
      rcases (show n = 0 ∨ (¬ n = 0 ∧ 2147483647 < (x : Int)) by omega) with hn0 | ⟨hn0, hx1⟩
      · have hz1 : ((n : Int) == 0) = true := by simp; omega
        clear hn0 ha
        rcases hcase with ⟨rfl, rfl⟩ | ⟨rfl, hck⟩ | ⟨a, rfl, rfl, hck⟩
        · go_enter Tryz.func57, Tryz.ntmps57
          go_wp2_with fail
          go_quiet (first | (go_at_call 76; exact Calls.quiet_of_same (HB.out _)) | fail)
          go_wp2
          go_ret
          exact ⟨rfl, grown_set (grown_drewN (grown_refl _ _) _) 2 _, by rw [hc]; exact Blk.set_ (Blk.drewN HS.out _) 2 _⟩
        · subst hck
          obtain rfl : c = 0 := by omega
          simp only [Nat.add_zero, Nat.sub_self] at *
          go_enter Tryz.func57, Tryz.ntmps57
          go_wp2_with fail
          go_quiet (first | (go_at_call 76; exact Calls.quiet_of_same (HB.out _)) | fail)
          go_wp2
          go_ret
          exact ⟨rfl, grown_set (grown_drewN (grown_refl _ _) _) 2 _, by rw [hc]; exact Blk.set_ (Blk.drewN HS.out _) 2 _⟩
        · go_enter Tryz.func57, Tryz.ntmps57
          go_wp2_with fail
          go_quiet (first | (go_at_call 76; exact Calls.quiet_of_same (HB.out _)) | fail)
          go_wp2
          go_ret
          exact ⟨rfl, grown_set (grown_drewN (grown_refl _ _) _) 2 _, by rw [hc]; exact Blk.set_ (Blk.drewN HS.out _) 2 _⟩
      · have hz1 : ((n : Int) == 0) = false := by simp; omega
        have hz2 : decide ((2147483647 : Int) < (x : Int)) = true := by simp; omega
        clear hn0 ha
        rcases hcase with ⟨rfl, rfl⟩ | ⟨rfl, hck⟩ | ⟨a, rfl, rfl, hck⟩
        · go_enter Tryz.func57, Tryz.ntmps57
          go_wp2_with fail
          go_quiet (first | (go_at_call 76; exact Calls.quiet_of_same (HB.out _)) | fail)
          go_wp2
          go_ret
          exact ⟨rfl, grown_set (grown_drewN (grown_refl _ _) _) 2 _, by rw [hc]; exact Blk.set_ (Blk.drewN HS.out _) 2 _⟩
        · subst hck
          obtain rfl : c = 0 := by omega
          simp only [Nat.add_zero, Nat.sub_self] at *
          go_enter Tryz.func57, Tryz.ntmps57
          go_wp2_with fail
          go_quiet (first | (go_at_call 76; exact Calls.quiet_of_same (HB.out _)) | fail)
          go_wp2
          go_ret
          exact ⟨rfl, grown_set (grown_drewN (grown_refl _ _) _) 2 _, by rw [hc]; exact Blk.set_ (Blk.drewN HS.out _) 2 _⟩
        · go_enter Tryz.func57, Tryz.ntmps57
          go_wp2_with fail
          go_quiet (first | (go_at_call 76; exact Calls.quiet_of_same (HB.out _)) | fail)
          go_wp2
          go_ret
          exact ⟨rfl, grown_set (grown_drewN (grown_refl _ _) _) 2 _, by rw [hc]; exact Blk.set_ (Blk.drewN HS.out _) 2 _⟩
    · rw [if_neg ha] at hR
      have hz1 : ((n : Int) == 0) = false := by simp; omega
      have hz2 : decide ((2147483647 : Int) < (x : Int)) = false := by simp; omega
      by_cases hm : most < (x : Int)
      · rw [if_pos hm] at hR
        subst hR
        have hz3 : decide (most < (x : Int)) = true := by simpa using hm
        clear ha
        rcases hcase with ⟨rfl, rfl⟩ | ⟨rfl, hck⟩ | ⟨a, rfl, rfl, hck⟩
        · go_enter Tryz.func57, Tryz.ntmps57
          go_wp2_with fail
          go_quiet (first | (go_at_call 76; exact Calls.quiet_of_same (HB.out _)) | fail)
          go_wp2
          go_ret
          exact ⟨rfl, grown_set (grown_drewN (grown_refl _ _) _) 2 _, by rw [hc]; exact Blk.set_ (Blk.drewN HS.out _) 2 _⟩
        · subst hck
          obtain rfl : c = 0 := by omega
          simp only [Nat.add_zero, Nat.sub_self] at *
          go_enter Tryz.func57, Tryz.ntmps57
          go_wp2_with fail
          go_quiet (first | (go_at_call 76; exact Calls.quiet_of_same (HB.out _)) | fail)
          go_wp2
          go_ret
          exact ⟨rfl, grown_set (grown_drewN (grown_refl _ _) _) 2 _, by rw [hc]; exact Blk.set_ (Blk.drewN HS.out _) 2 _⟩
        · go_enter Tryz.func57, Tryz.ntmps57
          go_wp2_with fail
          go_quiet (first | (go_at_call 76; exact Calls.quiet_of_same (HB.out _)) | fail)
          go_wp2
          go_ret
          exact ⟨rfl, grown_set (grown_drewN (grown_refl _ _) _) 2 _, by rw [hc]; exact Blk.set_ (Blk.drewN HS.out _) 2 _⟩
      · rw [if_neg hm] at hR
        subst hR
        have hz3 : decide (most < (x : Int)) = false := by simpa using hm
        have hkl : k ≤ 1000000 := by omega
        clear ha
        rcases hcase with ⟨rfl, rfl⟩ | ⟨rfl, hck⟩ | ⟨a, rfl, rfl, hck⟩
        · go_enter Tryz.func57, Tryz.ntmps57
          go_wp2_with fail
          go_quiet (first | (go_at_call 76; exact Calls.quiet_of_same (HB.out _)) | fail)
          go_wp2
          go_ret
          exact ⟨rfl, grown_set (grown_drewN (grown_refl _ _) _) 1 _, by rw [hc]; exact Blk.set_ (Blk.drewN HS.out _) 1 _⟩
        · subst hck
          obtain rfl : c = 0 := by omega
          simp only [Nat.add_zero, Nat.sub_self] at *
          go_enter Tryz.func57, Tryz.ntmps57
          go_wp2_with fail
          go_quiet (first | (go_at_call 76; exact Calls.quiet_of_same (HB.out _)) | fail)
          go_wp2
          go_ret
          exact ⟨rfl, grown_set (grown_drewN (grown_refl _ _) _) 1 _, by rw [hc]; exact Blk.set_ (Blk.drewN HS.out _) 1 _⟩
        · go_enter Tryz.func57, Tryz.ntmps57
          go_wp2_with fail
          go_quiet (first | (go_at_call 76; exact Calls.quiet_of_same (HB.out _)) | fail)
          go_wp2
          go_ret
          exact ⟨rfl, grown_set (grown_drewN (grown_refl _ _) _) 1 _, by rw [hc]; exact Blk.set_ (Blk.drewN HS.out _) 1 _⟩
  · rw [if_pos hf] at hR
    have hf2 : (f == 0) = false := by simpa using hf
    subst hR
    go_enter Tryz.func57, Tryz.ntmps57
    go_wp2_with fail
    go_ret
    exact ⟨rfl, grown_refl _ _, HS.out⟩
end Go.Proofs.YtkdgcdcakioajaaGreatDoor
