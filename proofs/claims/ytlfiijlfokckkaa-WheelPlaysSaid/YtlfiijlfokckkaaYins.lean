/- slices.insertionSortCmpFunc over timers. -/
import Derived.Test.YtlfiijlfokckkaaYswr
namespace Go.Proofs.Ytlfiijlfokckkaa
open Go.ChangeShapes Go.WideShapes Go.ChangeAt Go.RowKit Go.Sort Go.Lib
set_option linter.unusedVariables false

structure InsI (f0 f : Nat → Tm) (a b i j : Nat) : Prop where
  aj : a ≤ j
  ji : j ≤ i
  flt : ∀ x, filt f a b x = filt f0 a b x
  els : Else f0 f a b
  s1 : Srt f a j
  s2 : Srt f (j + 1) (i + 1)
  low : ∀ p q, a ≤ p → p < j → j < q → q ≤ i → (f p).tick ≤ (f q).tick
  mv : ∀ q, j < q → q ≤ i → (f j).tick < (f q).tick
theorem swF_rot (f : Nat → Tm) (j : Nat) : swF f (j + 1) j = rotF f j (j + 1) (j + 2) := by
  funext i
  unfold swF rotF
  grind
theorem InsI.start {f0 f : Nat → Tm} {a b i : Nat} (h : Srt f a i) (hai : a ≤ i) (hf : ∀ x, filt f a b x = filt f0 a b x) (he : Else f0 f a b) : InsI f0 f a b i i :=
  ⟨hai, Nat.le_refl _, hf, he, h, fun p q h1 h2 h3 => by omega, fun p q h1 h2 h3 h4 => by omega, fun q h1 h2 => by omega⟩
theorem InsI.step {f0 f : Nat → Tm} {a b i j : Nat} (h : InsI f0 f a b i (j + 1)) (hlt : (f (j + 1)).tick < (f j).tick) (haj : a ≤ j) (hib : i < b) : InsI f0 (swF f (j + 1) j) a b i j := by
  have hji := h.ji
  have r0 : ∀ q, q ≠ j → q ≠ j + 1 → swF f (j + 1) j q = f q := fun q h1 h2 => by unfold swF; rw [if_neg h1, if_neg h2]
  have r1 : swF f (j + 1) j j = f (j + 1) := by unfold swF; rw [if_pos rfl]
  have r2 : swF f (j + 1) j (j + 1) = f j := by unfold swF; rw [if_neg (by omega), if_pos rfl]
  have hel : Else f (swF f (j + 1) j) j (j + 2) := by rw [swF_rot]; exact rot_else (by omega) (by omega)
  refine ⟨haj, by omega, fun x => ?_, fun q hq => ?_, fun p q h1 h2 h3 => ?_, fun p q h1 h2 h3 => ?_, fun p q h1 h2 h3 h4 => ?_, fun q h1 h2 => ?_⟩
  · rw [filt_wide (f := f) (fun x => by rw [swF_rot]; exact filt_rot (by omega) (by omega) (fun p q p1 p2 q1 q2 => by
      obtain rfl : p = j := by omega
      obtain rfl : q = p + 1 := by omega
      exact hlt) x) hel haj (by omega) (by omega), h.flt]
  · rw [hel q (by omega), h.els q hq]
  · rw [r0 p (by omega) (by omega), r0 q (by omega) (by omega)]
    exact h.s1 p q h1 h2 (by omega)
  · rw [r0 q (by omega) (by omega)]
    by_cases hp : p = j + 1
    · subst hp
      rw [r2]
      exact h.low j q haj (by omega) (by omega) (by omega)
    · rw [r0 p (by omega) hp]
      exact h.s2 p q (by omega) h2 h3
  · rw [r0 p (by omega) (by omega)]
    by_cases hq : q = j + 1
    · subst hq
      rw [r2]
      exact h.s1 p j h1 h2 (by omega)
    · rw [r0 q (by omega) hq]
      exact h.low p q h1 (by omega) (by omega) h4
  · rw [r1]
    by_cases hq : q = j + 1
    · subst hq
      rw [r2]
      exact hlt
    · rw [r0 q (by omega) hq]
      exact h.mv q (by omega) h2
theorem InsI.stop {f0 f : Nat → Tm} {a b i j : Nat} (h : InsI f0 f a b i j) (hs : j ≤ a ∨ ¬ (f j).tick < (f (j - 1)).tick) : Srt f a (i + 1) := by
  have haj := h.aj
  have hji := h.ji
  have hle : ∀ p, a ≤ p → p < j → (f p).tick ≤ (f j).tick := fun p p1 p2 => by
    rcases hs with hs | hs
    · omega
    · by_cases hp : p = j - 1
      · subst hp; omega
      · have := h.s1 p (j - 1) p1 (by omega) (by omega)
        omega
  intro p q h1 h2 h3
  rcases Nat.lt_trichotomy q j with hq | hq | hq
  · exact h.s1 p q h1 h2 hq
  · subst hq; exact hle p h1 h2
  · rcases Nat.lt_trichotomy p j with hp | hp | hp
    · exact h.low p q h1 hp hq (by omega)
    · subst hp; exact Int.le_of_lt (h.mv q hq (by omega))
    · exact h.s2 p q (by omega) h2 h3

/-- the comparison's contract in a world that has grown -/
theorem due1_grown (x y : Tm) (w : World) (n : Nat) (os : Array Obj) : Calls Try.prog 19 #[.agg #[.int .i64 x.id, .int .i64 x.tick, .int .i64 x.wh], .agg #[.int .i64 y.id, .int .i64 y.tick, .int .i64 y.wh]] (grow (w.drewN n) os) fun e w'' => e = .returned (.int .i64 (cmpT x y)) ∧ ∃ p : GrownBy, w'' = grow (w.drewN p.n) p.os :=
  Calls.grown_of (due1_any x y _)
theorem enters19 : ∀ (args : Array Value) (w : World), Sem.run Try.prog (callFunc 19 args) w = .ok (.enter 19 args) w := enters_of Try.func19 (by kernel_rfl) rfl
abbrev cmpV : Value := .func (.func 19) #[] #[]

set_option maxHeartbeats 4000000 in
set_option maxRecDepth 1000000 in
theorem insertion_any (blk cap a b : Nat) (d0 d : Array Tm) (w0 w : World) (R : RowT w0 blk d0) (hs : d0.size = d.size) (S : SWT w0 blk d w) (hab : a ≤ b) (hb : b ≤ d.size) (hsz : d.size < 1000000) :
    Calls Try.prog 23 #[.slice (some ⟨blk, 0, none⟩) d.size cap, .int .i64 (a : Int), .int .i64 (b : Int), cmpV] w fun e w' => e = .returned (.tuple #[]) ∧ ∃ d' : Array Tm, d'.size = d.size ∧ SWT w0 blk d' w' ∧ Done (fn d) (fn d') a b := by
  have S0 : Aside (SWT w0 blk d w) := S
  have HD := Lib.hid due1_grown
  have eg := enters19
  have mixed : Try.prog.follows .mixedOrders = true := by kernel_rfl
  clear S
  go_enter Try.func23, Try.ntmps23
  go_wp2
  go_loopg [8] (b - a) (fun g1 vi wr => ∃ (i : Nat) (dk : Array Tm), vi = .int .i64 (i : Int) ∧ a < i ∧ i ≤ b + 1 ∧ b + 1 - i ≤ g1 + 1 ∧ dk.size = d.size ∧ Aside (SWT w0 blk dk wr) ∧ Hid (Srt (fn dk) a (min i b) ∧ (∀ x, filt (fn dk) a b x = filt (fn d) a b x) ∧ Else (fn d) (fn dk) a b))
  case atStart => exact ⟨a + 1, d, by go_num, by omega, by omega, by omega, rfl, S0, Lib.hid ⟨fun p q h1 h2 h3 => by omega, fun _ => rfl, fun _ _ => rfl⟩⟩
  case round =>
    clear S0
    obtain ⟨i, dk, rfl, hai, hib, hg1, hsk, S1, HO⟩ := hrel
    by_cases hlt : i < b
    · have hltz : (i : Int) < (b : Int) := by omega
      have HI0 := Lib.hid (InsI.start (by have := HO.out.1; rwa [Nat.min_eq_left (by omega)] at this) (by omega) HO.out.2.1 HO.out.2.2)
      clear HO
      go_wp2
      go_loopg [9] i (fun g2 vj wr2 => ∃ (j : Nat) (dj : Array Tm), vj = .int .i64 (j : Int) ∧ a ≤ j ∧ j ≤ i ∧ j ≤ g2 ∧ dj.size = d.size ∧ Aside (SWT w0 blk dj wr2) ∧ Hid (InsI (fn d) (fn dj) a b i j))
      case atStart => exact ⟨i, dk, rfl, by omega, Nat.le_refl _, Nat.le_refl _, hsk, S1, HI0⟩
      case round =>
        clear S1 HI0
        obtain ⟨j, dj, rfl, haj, hji, hg2, hsj, S1, HI⟩ := hrel
        obtain ⟨wr2, rfl⟩ : ∃ W : World, W = wr := ⟨_, rfl⟩
        by_cases hja : a < j
        · have hjaz : (a : Int) < (j : Int) := by omega
          obtain ⟨p, rfl⟩ : ∃ p, j = p + 1 := ⟨j - 1, by omega⟩
          obtain ⟨J, HJ⟩ : ∃ J, Hid (J = p + 1) := ⟨_, Lib.hid rfl⟩
          have hJ := HJ.out
          rw [← hJ] at hjaz HI
          rw [← hJ]
          have wp : IntKind.i64.wrap ((J : Int) - 1) = (p : Int) := by rw [IntKind.wrap_i64]; omega
          have p1 : (0 : Int) ≤ (J : Int) := by omega
          have p2 : (0 : Int) ≤ (p : Int) := by omega
          have q1 : (J : Int) < (d.size : Int) := by omega
          have q2 : (p : Int) < (d.size : Int) := by omega
          have t1 : (J : Int).toNat = J := by omega
          have t2 : (p : Int).toNat = p := by omega
          have LJ := Lib.hid (fun n os => (swt_cells (S1.out.grown n os) R (by omega) J (by omega)).1)
          have LP := Lib.hid (fun n os => (swt_cells (S1.out.grown n os) R (by omega) p (by omega)).1)
          have hcg := fun n os => HD.out dj[J]! dj[p]! wr2 n os
          have HGR := Lib.hid (fun n os => S1.out.grown n os)
          have HLT : Hid ((cmpT dj[J]! dj[p]! < 0) ↔ (fn dj J).tick < (fn dj p).tick) := Lib.hid cmpT_lt
          generalize hXd : dj[J]! = X at LJ hcg HLT
          generalize hYd : dj[p]! = Y at LP hcg HLT
          generalize cmpT X Y = R0 at hcg HLT
          obtain ⟨x0, x1, x2⟩ := X
          obtain ⟨y0, y1, y2⟩ := Y
          simp only at hcg
          have c0 := fun n os => (LJ.out n os).1
          have c1 := fun n os => (LJ.out n os).2.1
          have c2 := fun n os => (LJ.out n os).2.2
          have e0 := fun n os => (LP.out n os).1
          have e1 := fun n os => (LP.out n os).2.1
          have e2 := fun n os => (LP.out n os).2.2
          have HXD := Lib.hid hXd
          have HYD := Lib.hid hYd
          clear S1 hJ hXd hYd
          simp only at c0 c1 c2 e0 e1 e2
          by_cases hr : R0 < 0
          · have hlt' := HLT.out.1 hr
            have HI2 := Lib.hid (by have := HI.out; rw [HJ.out] at this hlt'; exact this.step hlt' (by omega) hlt : InsI (fn d) (swF (fn dj) (p + 1) p) a b i p)
            have HSF : Hid (fn (swp dj J p) = swF (fn dj) (p + 1) p) := Lib.hid (by rw [← HJ.out]; exact fn_swp (by omega) (by omega))
            have hz2 : (swp dj J p).size = d.size := by rw [size_swp]; exact hsj
            clear hlt'
            go_wp2_with fail
            go_quiet_grown (first | (go_at_fn 19; exact hcg _ _))
            go_wp2_with fail
            have S2 := HGR.out nq osq
            clear c0 c1 c2 e0 e1 e2 hcg LJ LP
            generalize grow (wr2.drewN nq) osq = wq at S2 ⊢
            obtain ⟨⟨c0, c1, c2⟩, f0, f1, f2⟩ := swt_cells S2 R (by omega) J (by omega)
            obtain ⟨⟨e0, e1, e2⟩, g0, g1, g2'⟩ := swt_cells S2 R (by omega) p (by omega)
            have S3 := Lib.hid (swt_swapped S2 R J p (by omega) (by omega))
            rw [HXD.out] at c0 c1 c2 S3
            rw [HYD.out] at e0 e1 e2 S3
            simp only at c0 c1 c2 e0 e1 e2
            have hJ := HJ.out
            have m0 : ¬ J = p := by omega
            have m0' : ¬ p = J := by omega
            have m1 : ¬ p * 3 = J * 3 + 1 := by omega
            have m2 : ¬ p * 3 = J * 3 + 2 := by omega
            have m3 : ¬ p * 3 + 1 = J * 3 := by omega
            have m4 : ¬ p * 3 + 2 = J * 3 := by omega
            clear S2 hJ
            go_big_region_o
            all_goals go_wp2
            go_roundg p
            case measure => omega
            case rel => exact ⟨p, _, rfl, by omega, by omega, Nat.le_refl _, hz2, S3.out, Lib.hid (by rw [HSF.out]; exact HI2.out)⟩
          · have HST := Lib.hid (HI.out.stop (.inr (by rw [HJ.out, Nat.add_sub_cancel]; have := HLT.out.2; intro h; rw [HJ.out] at this; exact hr (this h))))
            go_wp2_with fail
            go_quiet_grown (first | (go_at_fn 19; exact hcg _ _))
            go_wp2
            go_roundg (b - (i + 1))
            case measure => omega
            case rel => exact ⟨i + 1, dj, by go_num, by omega, by omega, by omega, hsj, HGR.out nq osq, Lib.hid ⟨by rw [Nat.min_eq_left (by omega)]; exact HST.out, HI.out.flt, HI.out.els⟩⟩
        · have hjaz : decide ((j : Int) > (a : Int)) = false := decide_eq_false (by omega)
          have hjaz' : ¬ (a : Int) < (j : Int) := by omega
          have HST := Lib.hid (HI.out.stop (.inl (by omega)))
          have HDR : Aside (SWT w0 blk dj wr2.drew) := S1.out.drew
          clear S1
          go_wp2_with fail
          go_big_region_o
          all_goals go_wp2
          go_roundg (b - (i + 1))
          case measure => omega
          case rel => exact ⟨i + 1, dj, by go_num, by omega, by omega, by omega, hsj, HDR.out, Lib.hid ⟨by rw [Nat.min_eq_left (by omega)]; exact HST.out, HI.out.flt, HI.out.els⟩⟩
    · have hltz : ¬ (i : Int) < (b : Int) := by omega
      go_wp2
      go_end0
      exact ⟨rfl, dk, hsk, S1.out, by have := HO.out.1; rwa [Nat.min_eq_right (by omega)] at this, HO.out.2.1, HO.out.2.2⟩
end Go.Proofs.Ytlfiijlfokckkaa
