/- slices.symMergeCmpFunc over timers: the whole. -/
import Derived.Test.YtlfiijlfokckkaaYsym
namespace Go.Proofs.Ytlfiijlfokckkaa
open Go.ChangeShapes Go.WideShapes Go.ChangeAt Go.RowKit Go.Sort Go.Lib
set_option linter.unusedVariables false

/-- what the calls within it may be asked -/
def SymRec (w0 : World) (blk cap n : Nat) (k : Nat) : Prop := ∀ (a m b : Nat) (dk : Array Tm) (W : World), b - a < k → a < m → m < b → b ≤ n → dk.size = n → SWT w0 blk dk W → Srt (fn dk) a m → Srt (fn dk) m b →
  Calls Try.prog 24 #[.slice (some ⟨blk, 0, none⟩) n cap, .int .i64 (a : Int), .int .i64 (m : Int), .int .i64 (b : Int), cmpV] W fun e w' => SymPost w0 blk dk a b e w'
def RotRec (w0 : World) (blk cap n : Nat) : Prop := ∀ (a m b : Nat) (dk : Array Tm) (W : World), a < m → m < b → b ≤ n → dk.size = n → SWT w0 blk dk W →
  Calls Try.prog 25 #[.slice (some ⟨blk, 0, none⟩) n cap, .int .i64 (a : Int), .int .i64 (m : Int), .int .i64 (b : Int), cmpV] W fun e w' => e = .returned (.tuple #[]) ∧ ∃ d' : Array Tm, d'.size = n ∧ SWT w0 blk d' w' ∧ fn d' = rotF (fn dk) a m b
/-- what is known where the search has ended -/
structure AtCut (f : Nat → Tm) (a m b M s E : Nat) : Prop where
  as_ : a ≤ s
  sm : s ≤ m
  sM : s ≤ M
  mE : m ≤ E
  Eb : E ≤ b
  sum : E + s = M + m
  cut : Cut f (rotF f s m E) a b M
  s1 : Srt (rotF f s m E) a s
  s2 : Srt (rotF f s m E) s M
  s3 : Srt (rotF f s m E) M E
  s4 : Srt (rotF f s m E) E b
theorem atCut {f : Nat → Tm} {a m b M lo hi s E : Nat} (hs : Srt f a m) (hs' : Srt f m b) (ham : a < m) (hmb : m < b) (hmid : M = (a + b) / 2) (hlo : lo = if M < m then M + m - b else a) (hhi : hi = if M < m then M else m)
    (h1 : lo ≤ s) (h2 : s ≤ hi) (hl : s = lo ∨ (f (s - 1)).tick ≤ (f (M + m - s)).tick) (hr : s = hi ∨ (f (M + m - 1 - s)).tick < (f s).tick) (hE : E + s = M + m) : AtCut f a m b M s E := by
  obtain rfl : E = M + m - s := by omega
  obtain ⟨b1, b2, b3, b4, b5, b6, b7, b8⟩ := sym_cut hs hs' ham hmb hmid hlo hhi h1 h2 hl hr
  obtain ⟨c1, c2, c3, c4, c5⟩ := rot_cut hs hs' b1 b2 b4 b5 b7 b8
  rw [b6] at c1 c3 c4
  exact ⟨b1, b2, b3, b4, b5, hE, c1, c2, c3, c4, c5⟩
set_option maxHeartbeats 8000000 in
set_option maxRecDepth 1000000 in
theorem sym_hi (blk cap n a m b M : Nat) (d0 d : Array Tm) (w0 w : World) (R : RowT w0 blk d0) (hs : d0.size = n) (hdn : d.size = n) (S : SWT w0 blk d w) (ham : a + 1 < m) (hmb : m + 1 < b) (hbn : b ≤ n) (hsz : n < 1000000) (h1 : Srt (fn d) a m) (h2 : Srt (fn d) m b)
    (hmid : M = (a + b) / 2) (hcase : M < m) (hrec : SymRec w0 blk cap n (b - a)) (hrot : RotRec w0 blk cap n) :
    Calls Try.prog 24 #[.slice (some ⟨blk, 0, none⟩) n cap, .int .i64 (a : Int), .int .i64 (m : Int), .int .i64 (b : Int), cmpV] w fun e w' => SymPost w0 blk d a b e w' := by
  have S0 : Aside (SWT w0 blk d w) := S
  have HD := Lib.hid due1_grown
  have H1 := Lib.hid h1
  have H2 := Lib.hid h2
  have HREC := Lib.hid hrec
  have HROT := Lib.hid hrot
  have HMID := Lib.hid hmid
  have eg := enters19
  have mixed : Try.prog.follows .mixedOrders = true := by kernel_rfl
  obtain ⟨D, HDm⟩ : ∃ D, Hid (D = m - a) := ⟨_, Lib.hid rfl⟩
  obtain ⟨D2, HDm2⟩ : ∃ D2, Hid (D2 = b - m) := ⟨_, Lib.hid rfl⟩
  obtain ⟨NN, HNN⟩ : ∃ NN, Hid (NN = M + m) := ⟨_, Lib.hid rfl⟩
  obtain ⟨PP, HPP⟩ : ∃ PP, Hid (PP + 1 = M + m) := ⟨M + m - 1, Lib.hid (by omega)⟩
  obtain ⟨L, HL⟩ : ∃ L, Hid (L + b = M + m ∨ ¬ M < m) := ⟨M + m - b, Lib.hid (by omega)⟩
  have wm : IntKind.i64.wrap ((m : Int) - (a : Int)) = (D : Int) := by have := HDm.out; rw [IntKind.wrap_i64]; omega
  have wn : ((D : Int) == 1) = false := beq_false_of_ne (by have := HDm.out; omega)
  have wb : IntKind.i64.wrap ((b : Int) - (m : Int)) = (D2 : Int) := by have := HDm2.out; rw [IntKind.wrap_i64]; omega
  have wc : ((D2 : Int) == 1) = false := beq_false_of_ne (by have := HDm2.out; omega)
  have wab : IntKind.i64.wrap ((a : Int) + (b : Int)) = (a : Int) + (b : Int) := by rw [IntKind.wrap_i64]; omega
  have wh : ((a : Int) + (b : Int)) / 2 = (M : Int) := by omega
  have wnn : IntKind.i64.wrap ((M : Int) + (m : Int)) = (NN : Int) := by have := HNN.out; rw [IntKind.wrap_i64]; omega
  have wpp : IntKind.i64.wrap ((NN : Int) - 1) = (PP : Int) := by have := HNN.out; have := HPP.out; rw [IntKind.wrap_i64]; omega
  have wmm : (M : Int) < (m : Int) := by omega
  have wl : IntKind.i64.wrap ((NN : Int) - (b : Int)) = (L : Int) := by have := HNN.out; have := HL.out; rw [IntKind.wrap_i64]; omega
  clear S h1 h2 hrec hrot hmid
  go_enter Try.func24, Try.ntmps24
  go_wp2
  go_loopg [20, 21] n (fun g1 vi vj wr => ∃ (i j : Nat), vi = .int .i64 (i : Int) ∧ vj = .int .i64 (j : Int) ∧ L ≤ i ∧ i ≤ j ∧ j ≤ M ∧ j - i ≤ g1 ∧ Aside (SWT w0 blk d wr) ∧ Hid ((i = L ∨ (fn d (i - 1)).tick ≤ (fn d (NN - i)).tick) ∧ (j = M ∨ (fn d (PP - j)).tick < (fn d j).tick)))
  case atStart => exact ⟨L, M, rfl, rfl, Nat.le_refl _, by have := HL.out; have := HMID.out; omega, Nat.le_refl _, by have := HMID.out; omega, S0, Lib.hid ⟨.inl rfl, .inl rfl⟩⟩
  case round =>
    clear S0 wm wn wb wc wab wh wnn wpp
    obtain ⟨i, j, rfl, rfl, hai, hij, hjb, hg1, S1, HO⟩ := hrel
    obtain ⟨wo, rfl⟩ : ∃ W : World, W = wr := ⟨_, rfl⟩
    by_cases hlt : i < j
    · have hltz : (i : Int) < (j : Int) := by omega
      have w1 : IntKind.i64.wrap ((i : Int) + (j : Int)) = (i : Int) + (j : Int) := by have := HMID.out; rw [IntKind.wrap_i64]; omega
      go_wp2_with fail
      obtain ⟨h, hh⟩ : ∃ h : Nat, ((i : Int) + (j : Int)) / 2 = (h : Int) := ⟨(i + j) / 2, by omega⟩
      have hih : i ≤ h := by omega
      have hhj : h < j := by omega
      rw [hh]
      clear hh w1
      obtain ⟨q, hq⟩ : ∃ q, q + h = PP := ⟨PP - h, by have := HPP.out; have := HMID.out; omega⟩
      have wq : IntKind.i64.wrap ((PP : Int) - (h : Int)) = (q : Int) := by have := HPP.out; have := HMID.out; rw [IntKind.wrap_i64]; omega
      have HQ := Lib.hid hq
      clear hq
      have hqn : q < n := by have := HPP.out; have := HMID.out; have := HQ.out; have := HL.out; omega
      have hhn : h < n := by have := HMID.out; omega
      have p1 : (0 : Int) ≤ (q : Int) := by omega
      have p2 : (0 : Int) ≤ (h : Int) := by omega
      have q1 : (q : Int) < (n : Int) := by omega
      have q2 : (h : Int) < (n : Int) := by omega
      have t1 : (q : Int).toNat = q := by omega
      have t2 : (h : Int).toNat = h := by omega
      have LJ := Lib.hid (fun n os => (swt_cells (S1.out.grown n os) R (by omega) q (by omega)).1)
      have LP := Lib.hid (fun n os => (swt_cells (S1.out.grown n os) R (by omega) h (by omega)).1)
      have hcg := fun n os => HD.out d[q]! d[h]! wo n os
      have HGR := Lib.hid (fun n os => S1.out.grown n os)
      have HLT : Hid ((cmpT d[q]! d[h]! < 0) ↔ (fn d q).tick < (fn d h).tick) := Lib.hid cmpT_lt
      generalize d[q]! = X at LJ hcg HLT
      generalize d[h]! = Y at LP hcg HLT
      generalize cmpT X Y = R0 at hcg HLT
      obtain ⟨x0, x1, x2⟩ := X
      obtain ⟨y0, y1, y2⟩ := Y
      simp only at hcg
      have c0 := fun n os => (LJ.out n os).1
      have c1 := fun n os => (LJ.out n os).2.1
      have c2 := fun n os => (LJ.out n os).2.2
      have e0 := fun n os => (LP.out n os).1
      have e1 := fun n os => (LP.out n os).2.1
      have e2 := fun n os => (LP.out n os).2.2
      simp only at c0 c1 c2 e0 e1 e2
      by_cases hr : R0 < 0
      · have HR := Lib.hid (HLT.out.1 hr)
        go_quiet_grown (first | (go_at_fn 19; exact hcg _ _))
        go_wp2
        go_roundg (h - i)
        case measure => omega
        case rel => exact ⟨i, h, rfl, rfl, hai, by omega, by omega, by omega, HGR.out nq osq, Lib.hid ⟨HO.out.1, .inr (by rw [show PP - h = q by have := HQ.out; omega]; exact HR.out)⟩⟩
      · have HR : Hid (¬ (fn d q).tick < (fn d h).tick) := Lib.hid (fun h => hr (HLT.out.2 h))
        go_quiet_grown (first | (go_at_fn 19; exact hcg _ _))
        go_wp2
        go_roundg (j - (h + 1))
        case measure => omega
        case rel => exact ⟨h + 1, j, by go_num, rfl, by omega, by omega, hjb, by omega, HGR.out nq osq, Lib.hid ⟨.inr (by rw [Nat.add_sub_cancel, show NN - (h + 1) = q by have := HQ.out; have := HNN.out; have := HPP.out; omega]; have := HR.out; omega), HO.out.2⟩⟩
    · have hltz : ¬ (i : Int) < (j : Int) := by omega
      obtain rfl : i = j := by omega
      obtain ⟨s, rfl⟩ : ∃ s, s = i := ⟨_, rfl⟩
      obtain ⟨E, HE⟩ : ∃ E, Hid (E + s = M + m) := ⟨M + m - s, Lib.hid (by have := HMID.out; omega)⟩
      have we : IntKind.i64.wrap ((NN : Int) - (s : Int)) = (E : Int) := by have := HE.out; have := HNN.out; have := HMID.out; rw [IntKind.wrap_i64]; omega
      have HC : Hid (AtCut (fn d) a m b M s E) := Lib.hid (atCut (lo := L) (hi := M) H1.out H2.out (by omega) (by omega) HMID.out (by rw [if_pos hcase]; have := HL.out; omega) (by rw [if_pos hcase]) hai hjb
        (by rcases HO.out.1 with h | h; exact .inl h; exact .inr (by rw [← HNN.out]; exact h)) (by rcases HO.out.2 with h | h; exact .inl h; exact .inr (by rw [show M + m - 1 - s = PP - s by have := HPP.out; omega]; exact h)) HE.out)
      obtain ⟨hAS, hSM, hSMM, hME, hEB, hSUM⟩ : a ≤ s ∧ s ≤ m ∧ s ≤ M ∧ m ≤ E ∧ E ≤ b ∧ E + s = M + m := ⟨HC.out.as_, HC.out.sm, HC.out.sM, HC.out.mE, HC.out.Eb, HC.out.sum⟩
      have hMH : a < M ∧ M < b ∧ b - M < b - a ∧ M - a < b - a := by have := HMID.out; omega
      have ZMH := Lib.hid hMH
      clear HO hij hai hjb hg1 hlt
      rcases Nat.lt_or_ge s M with hsM | hsM
      · skip
        rcases Nat.eq_or_lt_of_le hAS with has | has
        · rcases Nat.eq_or_lt_of_le hEB with heb | heb
          · have ZSM : Hid (s < m) := Lib.hid (by omega)
            have ZME : Hid (m < E) := Lib.hid (by omega)
            have ZEB : Hid (E ≤ n) := Lib.hid (by omega)
            have ZSM2 : Hid (s < M) := Lib.hid (by omega)
            have ZMLE : Hid (M < E) := Lib.hid (by omega)
            have ZSA : Hid (s = a) := Lib.hid (by omega)
            have ZEB3 : Hid (E = b) := Lib.hid (by omega)
            have z1 : (s : Int) < (m : Int) := by omega
            have z2 : (m : Int) < (E : Int) := by omega
            have z4 : (s : Int) < (M : Int) := by omega
            have z5 : (M : Int) < (E : Int) := by omega
            have z3 : ¬ (a : Int) < (s : Int) := by omega
            have z6 : ¬ (E : Int) < (b : Int) := by omega
            clear has heb hsM hAS hSM hSMM hME hEB hSUM hMH
            have HCALL := Lib.hid (HROT.out s m E d wo ZSM.out ZME.out ZEB.out hdn S1.out)
            go_wp2_with fail
            refine HCALL.out.mono ?_
            rintro e w5 ⟨rfl, d5, hd5, S5, hf5⟩
            have HF5 := Lib.hid hf5
            have S5 := Lib.hid S5
            clear hf5 HCALL
            obtain ⟨d6, hd6, S6, HF6⟩ : ∃ d6 : Array Tm, d6.size = n ∧ Hid (SWT w0 blk d6 w5) ∧ Hid (Done (fn d5) (fn d6) a M) := ⟨d5, hd5, S5, Lib.hid (.refl (by rw [HF5.out]; have := HC.out.s2; rw [ZSA.out] at this ⊢; exact this))⟩
            go_wp2_with fail
            go_end0
            have hf5 := HF5.out
            have hf6 := HF6.out
            have hl : Srt (fn d6) M b := by
              intro p q p1 p2 p3
              rw [hf6.els p (.inr p1), hf6.els q (.inr (by omega)), hf5]
              have := HC.out.s3; rw [ZEB3.out] at this ⊢; exact this p q p1 p2 p3
            rw [hf5] at hf6
            exact ⟨rfl, d6, hd6.trans hdn.symm, S6.out, HC.out.cut.join hf6 (.refl hl) (by have := ZMH.out; omega) (by have := ZMH.out; omega)⟩
          · have ZSM : Hid (s < m) := Lib.hid (by omega)
            have ZME : Hid (m < E) := Lib.hid (by omega)
            have ZEB : Hid (E ≤ n) := Lib.hid (by omega)
            have ZSM2 : Hid (s < M) := Lib.hid (by omega)
            have ZMLE : Hid (M < E) := Lib.hid (by omega)
            have ZSA : Hid (s = a) := Lib.hid (by omega)
            have ZEB2 : Hid (E < b) := Lib.hid (by omega)
            have z1 : (s : Int) < (m : Int) := by omega
            have z2 : (m : Int) < (E : Int) := by omega
            have z4 : (s : Int) < (M : Int) := by omega
            have z5 : (M : Int) < (E : Int) := by omega
            have z3 : ¬ (a : Int) < (s : Int) := by omega
            have z6 : (E : Int) < (b : Int) := by omega
            clear has heb hsM hAS hSM hSMM hME hEB hSUM hMH
            have HCALL := Lib.hid (HROT.out s m E d wo ZSM.out ZME.out ZEB.out hdn S1.out)
            go_wp2_with fail
            refine HCALL.out.mono ?_
            rintro e w5 ⟨rfl, d5, hd5, S5, hf5⟩
            have HF5 := Lib.hid hf5
            have S5 := Lib.hid S5
            clear hf5 HCALL
            obtain ⟨d6, hd6, S6, HF6⟩ : ∃ d6 : Array Tm, d6.size = n ∧ Hid (SWT w0 blk d6 w5) ∧ Hid (Done (fn d5) (fn d6) a M) := ⟨d5, hd5, S5, Lib.hid (.refl (by rw [HF5.out]; have := HC.out.s2; rw [ZSA.out] at this ⊢; exact this))⟩
            have HCALL := Lib.hid (HREC.out M E b d6 w5 (by have := ZMH.out; omega) ZMLE.out ZEB2.out hbn hd6 S6.out (by
              intro p q p1 p2 p3
              rw [HF6.out.els p (.inr p1), HF6.out.els q (.inr (by omega)), HF5.out]
              exact HC.out.s3 p q p1 p2 p3) (by
              intro p q p1 p2 p3
              have := HC.out.mE
              rw [HF6.out.els p (.inr (by have := ZMLE.out; omega)), HF6.out.els q (.inr (by have := ZMLE.out; omega)), HF5.out]
              exact HC.out.s4 p q p1 p2 p3))
            go_wp2_with fail
            refine HCALL.out.mono ?_
            rintro e w7 ⟨rfl, d7, hd7, S7, hf7⟩
            go_wp2_with fail
            go_end0
            have hf5 := HF5.out
            have hf6 := HF6.out
            rw [hf5] at hf6
            exact ⟨rfl, d7, hd7.trans (hd6.trans hdn.symm), S7, HC.out.cut.join hf6 hf7 (by have := ZMH.out; omega) (by have := ZMH.out; omega)⟩
        · rcases Nat.eq_or_lt_of_le hEB with heb | heb
          · have ZSM : Hid (s < m) := Lib.hid (by omega)
            have ZME : Hid (m < E) := Lib.hid (by omega)
            have ZEB : Hid (E ≤ n) := Lib.hid (by omega)
            have ZSM2 : Hid (s < M) := Lib.hid (by omega)
            have ZMLE : Hid (M < E) := Lib.hid (by omega)
            have ZAS : Hid (a < s) := Lib.hid (by omega)
            have ZEB3 : Hid (E = b) := Lib.hid (by omega)
            have z1 : (s : Int) < (m : Int) := by omega
            have z2 : (m : Int) < (E : Int) := by omega
            have z4 : (s : Int) < (M : Int) := by omega
            have z5 : (M : Int) < (E : Int) := by omega
            have z3 : (a : Int) < (s : Int) := by omega
            have z6 : ¬ (E : Int) < (b : Int) := by omega
            clear has heb hsM hAS hSM hSMM hME hEB hSUM hMH
            have HCALL := Lib.hid (HROT.out s m E d wo ZSM.out ZME.out ZEB.out hdn S1.out)
            go_wp2_with fail
            refine HCALL.out.mono ?_
            rintro e w5 ⟨rfl, d5, hd5, S5, hf5⟩
            have HF5 := Lib.hid hf5
            have S5 := Lib.hid S5
            clear hf5 HCALL
            have HCALL := Lib.hid (HREC.out a s M d5 w5 (by have := ZMH.out; omega) ZAS.out ZSM2.out (by have := ZMH.out; omega) hd5 S5.out (by rw [HF5.out]; exact HC.out.s1) (by rw [HF5.out]; exact HC.out.s2))
            go_wp2_with fail
            refine HCALL.out.mono ?_
            rintro e w6 ⟨rfl, d6, hd6, S6, hf6⟩
            have HF6 := Lib.hid hf6
            have S6 := Lib.hid S6
            have hd6 : d6.size = n := hd6.trans hd5
            clear hf6 HCALL
            go_wp2_with fail
            go_end0
            have hf5 := HF5.out
            have hf6 := HF6.out
            have hl : Srt (fn d6) M b := by
              intro p q p1 p2 p3
              rw [hf6.els p (.inr p1), hf6.els q (.inr (by omega)), hf5]
              have := HC.out.s3; rw [ZEB3.out] at this ⊢; exact this p q p1 p2 p3
            rw [hf5] at hf6
            exact ⟨rfl, d6, hd6.trans hdn.symm, S6.out, HC.out.cut.join hf6 (.refl hl) (by have := ZMH.out; omega) (by have := ZMH.out; omega)⟩
          · have ZSM : Hid (s < m) := Lib.hid (by omega)
            have ZME : Hid (m < E) := Lib.hid (by omega)
            have ZEB : Hid (E ≤ n) := Lib.hid (by omega)
            have ZSM2 : Hid (s < M) := Lib.hid (by omega)
            have ZMLE : Hid (M < E) := Lib.hid (by omega)
            have ZAS : Hid (a < s) := Lib.hid (by omega)
            have ZEB2 : Hid (E < b) := Lib.hid (by omega)
            have z1 : (s : Int) < (m : Int) := by omega
            have z2 : (m : Int) < (E : Int) := by omega
            have z4 : (s : Int) < (M : Int) := by omega
            have z5 : (M : Int) < (E : Int) := by omega
            have z3 : (a : Int) < (s : Int) := by omega
            have z6 : (E : Int) < (b : Int) := by omega
            clear has heb hsM hAS hSM hSMM hME hEB hSUM hMH
            have HCALL := Lib.hid (HROT.out s m E d wo ZSM.out ZME.out ZEB.out hdn S1.out)
            go_wp2_with fail
            refine HCALL.out.mono ?_
            rintro e w5 ⟨rfl, d5, hd5, S5, hf5⟩
            have HF5 := Lib.hid hf5
            have S5 := Lib.hid S5
            clear hf5 HCALL
            have HCALL := Lib.hid (HREC.out a s M d5 w5 (by have := ZMH.out; omega) ZAS.out ZSM2.out (by have := ZMH.out; omega) hd5 S5.out (by rw [HF5.out]; exact HC.out.s1) (by rw [HF5.out]; exact HC.out.s2))
            go_wp2_with fail
            refine HCALL.out.mono ?_
            rintro e w6 ⟨rfl, d6, hd6, S6, hf6⟩
            have HF6 := Lib.hid hf6
            have S6 := Lib.hid S6
            have hd6 : d6.size = n := hd6.trans hd5
            clear hf6 HCALL
            have HCALL := Lib.hid (HREC.out M E b d6 w6 (by have := ZMH.out; omega) ZMLE.out ZEB2.out hbn hd6 S6.out (by
              intro p q p1 p2 p3
              rw [HF6.out.els p (.inr p1), HF6.out.els q (.inr (by omega)), HF5.out]
              exact HC.out.s3 p q p1 p2 p3) (by
              intro p q p1 p2 p3
              have := HC.out.mE
              rw [HF6.out.els p (.inr (by have := ZMLE.out; omega)), HF6.out.els q (.inr (by have := ZMLE.out; omega)), HF5.out]
              exact HC.out.s4 p q p1 p2 p3))
            go_wp2_with fail
            refine HCALL.out.mono ?_
            rintro e w7 ⟨rfl, d7, hd7, S7, hf7⟩
            go_wp2_with fail
            go_end0
            have hf5 := HF5.out
            have hf6 := HF6.out
            rw [hf5] at hf6
            exact ⟨rfl, d7, hd7.trans (hd6.trans hdn.symm), S7, HC.out.cut.join hf6 hf7 (by have := ZMH.out; omega) (by have := ZMH.out; omega)⟩
      · have ZEM : Hid (E = m) := Lib.hid (by omega)
        have ZSMM : Hid (s = M) := Lib.hid (by omega)
        have ZMLE : Hid (M < E) := Lib.hid (by omega)
        have ZEB2 : Hid (E < b) := Lib.hid (by omega)
        have z1 : (s : Int) < (m : Int) := by omega
        have z2 : ¬ (m : Int) < (E : Int) := by omega
        have z3 : (a : Int) < (s : Int) := by omega
        have z4 : ¬ (s : Int) < (M : Int) := by omega
        have z5 : (M : Int) < (E : Int) := by omega
        have z6 : (E : Int) < (b : Int) := by omega
        clear hsM hAS hSM hSMM hME hEB hSUM hMH
        obtain ⟨d5, hd5, S5, HF5⟩ : ∃ d5 : Array Tm, d5.size = n ∧ Hid (SWT w0 blk d5 wo) ∧ Hid (fn d5 = rotF (fn d) s m E) := ⟨d, hdn, S1.out, Lib.hid (by rw [ZEM.out, rot_zero])⟩
        obtain ⟨d6, hd6, S6, HF6⟩ : ∃ d6 : Array Tm, d6.size = n ∧ Hid (SWT w0 blk d6 wo) ∧ Hid (Done (fn d5) (fn d6) a M) := ⟨d5, hd5, S5, Lib.hid (.refl (by rw [HF5.out]; have := HC.out.s1; rw [ZSMM.out] at this ⊢; exact this))⟩
        have HCALL := Lib.hid (HREC.out M E b d6 wo (by have := ZMH.out; omega) ZMLE.out ZEB2.out hbn hd6 S6.out (by
          intro p q p1 p2 p3
          rw [HF6.out.els p (.inr p1), HF6.out.els q (.inr (by omega)), HF5.out]
          exact HC.out.s3 p q p1 p2 p3) (by
          intro p q p1 p2 p3
          have := HC.out.mE
          rw [HF6.out.els p (.inr (by have := ZMLE.out; omega)), HF6.out.els q (.inr (by have := ZMLE.out; omega)), HF5.out]
          exact HC.out.s4 p q p1 p2 p3))
        go_wp2_with fail
        refine HCALL.out.mono ?_
        rintro e w7 ⟨rfl, d7, hd7, S7, hf7⟩
        go_wp2_with fail
        go_end0
        have hf5 := HF5.out
        have hf6 := HF6.out
        rw [hf5] at hf6
        exact ⟨rfl, d7, hd7.trans (hd6.trans hdn.symm), S7, HC.out.cut.join hf6 hf7 (by have := ZMH.out; omega) (by have := ZMH.out; omega)⟩
set_option maxHeartbeats 8000000 in
set_option maxRecDepth 1000000 in
theorem sym_lo (blk cap n a m b M : Nat) (d0 d : Array Tm) (w0 w : World) (R : RowT w0 blk d0) (hs : d0.size = n) (hdn : d.size = n) (S : SWT w0 blk d w) (ham : a + 1 < m) (hmb : m + 1 < b) (hbn : b ≤ n) (hsz : n < 1000000) (h1 : Srt (fn d) a m) (h2 : Srt (fn d) m b)
    (hmid : M = (a + b) / 2) (hcase : ¬ M < m) (hrec : SymRec w0 blk cap n (b - a)) (hrot : RotRec w0 blk cap n) :
    Calls Try.prog 24 #[.slice (some ⟨blk, 0, none⟩) n cap, .int .i64 (a : Int), .int .i64 (m : Int), .int .i64 (b : Int), cmpV] w fun e w' => SymPost w0 blk d a b e w' := by
  have S0 : Aside (SWT w0 blk d w) := S
  have HD := Lib.hid due1_grown
  have H1 := Lib.hid h1
  have H2 := Lib.hid h2
  have HREC := Lib.hid hrec
  have HROT := Lib.hid hrot
  have HMID := Lib.hid hmid
  have eg := enters19
  have mixed : Try.prog.follows .mixedOrders = true := by kernel_rfl
  obtain ⟨D, HDm⟩ : ∃ D, Hid (D = m - a) := ⟨_, Lib.hid rfl⟩
  obtain ⟨D2, HDm2⟩ : ∃ D2, Hid (D2 = b - m) := ⟨_, Lib.hid rfl⟩
  obtain ⟨NN, HNN⟩ : ∃ NN, Hid (NN = M + m) := ⟨_, Lib.hid rfl⟩
  obtain ⟨PP, HPP⟩ : ∃ PP, Hid (PP + 1 = M + m) := ⟨M + m - 1, Lib.hid (by omega)⟩
  obtain ⟨L, HL⟩ : ∃ L, Hid (L + b = M + m ∨ ¬ M < m) := ⟨M + m - b, Lib.hid (by omega)⟩
  have wm : IntKind.i64.wrap ((m : Int) - (a : Int)) = (D : Int) := by have := HDm.out; rw [IntKind.wrap_i64]; omega
  have wn : ((D : Int) == 1) = false := beq_false_of_ne (by have := HDm.out; omega)
  have wb : IntKind.i64.wrap ((b : Int) - (m : Int)) = (D2 : Int) := by have := HDm2.out; rw [IntKind.wrap_i64]; omega
  have wc : ((D2 : Int) == 1) = false := beq_false_of_ne (by have := HDm2.out; omega)
  have wab : IntKind.i64.wrap ((a : Int) + (b : Int)) = (a : Int) + (b : Int) := by rw [IntKind.wrap_i64]; omega
  have wh : ((a : Int) + (b : Int)) / 2 = (M : Int) := by omega
  have wnn : IntKind.i64.wrap ((M : Int) + (m : Int)) = (NN : Int) := by have := HNN.out; rw [IntKind.wrap_i64]; omega
  have wpp : IntKind.i64.wrap ((NN : Int) - 1) = (PP : Int) := by have := HNN.out; have := HPP.out; rw [IntKind.wrap_i64]; omega
  have wmm : ¬ (M : Int) < (m : Int) := by omega
  clear S h1 h2 hrec hrot hmid
  go_enter Try.func24, Try.ntmps24
  go_wp2
  go_loopg [20, 21] n (fun g1 vi vj wr => ∃ (i j : Nat), vi = .int .i64 (i : Int) ∧ vj = .int .i64 (j : Int) ∧ a ≤ i ∧ i ≤ j ∧ j ≤ m ∧ j - i ≤ g1 ∧ Aside (SWT w0 blk d wr) ∧ Hid ((i = a ∨ (fn d (i - 1)).tick ≤ (fn d (NN - i)).tick) ∧ (j = m ∨ (fn d (PP - j)).tick < (fn d j).tick)))
  case atStart => exact ⟨a, m, rfl, rfl, Nat.le_refl _, by have := HL.out; have := HMID.out; omega, Nat.le_refl _, by have := HMID.out; omega, S0, Lib.hid ⟨.inl rfl, .inl rfl⟩⟩
  case round =>
    clear S0 wm wn wb wc wab wh wnn wpp
    obtain ⟨i, j, rfl, rfl, hai, hij, hjb, hg1, S1, HO⟩ := hrel
    obtain ⟨wo, rfl⟩ : ∃ W : World, W = wr := ⟨_, rfl⟩
    by_cases hlt : i < j
    · have hltz : (i : Int) < (j : Int) := by omega
      have w1 : IntKind.i64.wrap ((i : Int) + (j : Int)) = (i : Int) + (j : Int) := by have := HMID.out; rw [IntKind.wrap_i64]; omega
      go_wp2_with fail
      obtain ⟨h, hh⟩ : ∃ h : Nat, ((i : Int) + (j : Int)) / 2 = (h : Int) := ⟨(i + j) / 2, by omega⟩
      have hih : i ≤ h := by omega
      have hhj : h < j := by omega
      rw [hh]
      clear hh w1
      obtain ⟨q, hq⟩ : ∃ q, q + h = PP := ⟨PP - h, by have := HPP.out; have := HMID.out; omega⟩
      have wq : IntKind.i64.wrap ((PP : Int) - (h : Int)) = (q : Int) := by have := HPP.out; have := HMID.out; rw [IntKind.wrap_i64]; omega
      have HQ := Lib.hid hq
      clear hq
      have hqn : q < n := by have := HPP.out; have := HMID.out; have := HQ.out; have := HL.out; omega
      have hhn : h < n := by have := HMID.out; omega
      have p1 : (0 : Int) ≤ (q : Int) := by omega
      have p2 : (0 : Int) ≤ (h : Int) := by omega
      have q1 : (q : Int) < (n : Int) := by omega
      have q2 : (h : Int) < (n : Int) := by omega
      have t1 : (q : Int).toNat = q := by omega
      have t2 : (h : Int).toNat = h := by omega
      have LJ := Lib.hid (fun n os => (swt_cells (S1.out.grown n os) R (by omega) q (by omega)).1)
      have LP := Lib.hid (fun n os => (swt_cells (S1.out.grown n os) R (by omega) h (by omega)).1)
      have hcg := fun n os => HD.out d[q]! d[h]! wo n os
      have HGR := Lib.hid (fun n os => S1.out.grown n os)
      have HLT : Hid ((cmpT d[q]! d[h]! < 0) ↔ (fn d q).tick < (fn d h).tick) := Lib.hid cmpT_lt
      generalize d[q]! = X at LJ hcg HLT
      generalize d[h]! = Y at LP hcg HLT
      generalize cmpT X Y = R0 at hcg HLT
      obtain ⟨x0, x1, x2⟩ := X
      obtain ⟨y0, y1, y2⟩ := Y
      simp only at hcg
      have c0 := fun n os => (LJ.out n os).1
      have c1 := fun n os => (LJ.out n os).2.1
      have c2 := fun n os => (LJ.out n os).2.2
      have e0 := fun n os => (LP.out n os).1
      have e1 := fun n os => (LP.out n os).2.1
      have e2 := fun n os => (LP.out n os).2.2
      simp only at c0 c1 c2 e0 e1 e2
      by_cases hr : R0 < 0
      · have HR := Lib.hid (HLT.out.1 hr)
        go_quiet_grown (first | (go_at_fn 19; exact hcg _ _))
        go_wp2
        go_roundg (h - i)
        case measure => omega
        case rel => exact ⟨i, h, rfl, rfl, hai, by omega, by omega, by omega, HGR.out nq osq, Lib.hid ⟨HO.out.1, .inr (by rw [show PP - h = q by have := HQ.out; omega]; exact HR.out)⟩⟩
      · have HR : Hid (¬ (fn d q).tick < (fn d h).tick) := Lib.hid (fun h => hr (HLT.out.2 h))
        go_quiet_grown (first | (go_at_fn 19; exact hcg _ _))
        go_wp2
        go_roundg (j - (h + 1))
        case measure => omega
        case rel => exact ⟨h + 1, j, by go_num, rfl, by omega, by omega, hjb, by omega, HGR.out nq osq, Lib.hid ⟨.inr (by rw [Nat.add_sub_cancel, show NN - (h + 1) = q by have := HQ.out; have := HNN.out; have := HPP.out; omega]; have := HR.out; omega), HO.out.2⟩⟩
    · have hltz : ¬ (i : Int) < (j : Int) := by omega
      obtain rfl : i = j := by omega
      obtain ⟨s, rfl⟩ : ∃ s, s = i := ⟨_, rfl⟩
      obtain ⟨E, HE⟩ : ∃ E, Hid (E + s = M + m) := ⟨M + m - s, Lib.hid (by have := HMID.out; omega)⟩
      have we : IntKind.i64.wrap ((NN : Int) - (s : Int)) = (E : Int) := by have := HE.out; have := HNN.out; have := HMID.out; rw [IntKind.wrap_i64]; omega
      have HC : Hid (AtCut (fn d) a m b M s E) := Lib.hid (atCut (lo := a) (hi := m) H1.out H2.out (by omega) (by omega) HMID.out (by rw [if_neg hcase]) (by rw [if_neg hcase]) hai hjb
        (by rcases HO.out.1 with h | h; exact .inl h; exact .inr (by rw [← HNN.out]; exact h)) (by rcases HO.out.2 with h | h; exact .inl h; exact .inr (by rw [show M + m - 1 - s = PP - s by have := HPP.out; omega]; exact h)) HE.out)
      obtain ⟨hAS, hSM, hSMM, hME, hEB, hSUM⟩ : a ≤ s ∧ s ≤ m ∧ s ≤ M ∧ m ≤ E ∧ E ≤ b ∧ E + s = M + m := ⟨HC.out.as_, HC.out.sm, HC.out.sM, HC.out.mE, HC.out.Eb, HC.out.sum⟩
      have hMH : a < M ∧ M < b ∧ b - M < b - a ∧ M - a < b - a := by have := HMID.out; omega
      have ZMH := Lib.hid hMH
      clear HO hij hai hjb hg1 hlt
      rcases Nat.lt_or_ge s M with hsM | hsM
      · rcases Nat.eq_or_lt_of_le hSM with hsm | hsm
        · have ZSE : Hid (s = m) := Lib.hid (by omega)
          have ZAS : Hid (a < s) := Lib.hid (by omega)
          have ZSM2 : Hid (s < M) := Lib.hid (by omega)
          have ZEMM : Hid (E = M) := Lib.hid (by omega)
          have z1 : ¬ (s : Int) < (m : Int) := by omega
          have z3 : (a : Int) < (s : Int) := by omega
          have z4 : (s : Int) < (M : Int) := by omega
          have z5 : ¬ (M : Int) < (E : Int) := by omega
          clear hsM hsm hAS hSM hSMM hME hEB hSUM hMH
          obtain ⟨d5, hd5, S5, HF5⟩ : ∃ d5 : Array Tm, d5.size = n ∧ Hid (SWT w0 blk d5 wo) ∧ Hid (fn d5 = rotF (fn d) s m E) := ⟨d, hdn, S1.out, Lib.hid (by rw [ZSE.out, rot_self])⟩
          have HCALL := Lib.hid (HREC.out a s M d5 wo (by have := ZMH.out; omega) ZAS.out ZSM2.out (by have := ZMH.out; omega) hd5 S5.out (by rw [HF5.out]; exact HC.out.s1) (by rw [HF5.out]; exact HC.out.s2))
          go_wp2_with fail
          refine HCALL.out.mono ?_
          rintro e w6 ⟨rfl, d6, hd6, S6, hf6⟩
          have HF6 := Lib.hid hf6
          have S6 := Lib.hid S6
          have hd6 : d6.size = n := hd6.trans hd5
          clear hf6 HCALL
          go_wp2_with fail
          go_end0
          have hf5 := HF5.out
          have hf6 := HF6.out
          have hl : Srt (fn d6) M b := by
            intro p q p1 p2 p3
            rw [hf6.els p (.inr p1), hf6.els q (.inr (by omega)), hf5]
            have := HC.out.s4; rw [ZEMM.out] at this ⊢; exact this p q p1 p2 p3
          rw [hf5] at hf6
          exact ⟨rfl, d6, hd6.trans hdn.symm, S6.out, HC.out.cut.join hf6 (.refl hl) (by have := ZMH.out; omega) (by have := ZMH.out; omega)⟩
        · skip
          rcases Nat.eq_or_lt_of_le hAS with has | has
          · rcases Nat.eq_or_lt_of_le hEB with heb | heb
            · have ZSM : Hid (s < m) := Lib.hid (by omega)
              have ZME : Hid (m < E) := Lib.hid (by omega)
              have ZEB : Hid (E ≤ n) := Lib.hid (by omega)
              have ZSM2 : Hid (s < M) := Lib.hid (by omega)
              have ZMLE : Hid (M < E) := Lib.hid (by omega)
              have ZSA : Hid (s = a) := Lib.hid (by omega)
              have ZEB3 : Hid (E = b) := Lib.hid (by omega)
              have z1 : (s : Int) < (m : Int) := by omega
              have z2 : (m : Int) < (E : Int) := by omega
              have z4 : (s : Int) < (M : Int) := by omega
              have z5 : (M : Int) < (E : Int) := by omega
              have z3 : ¬ (a : Int) < (s : Int) := by omega
              have z6 : ¬ (E : Int) < (b : Int) := by omega
              clear has heb hsM hsm hAS hSM hSMM hME hEB hSUM hMH
              have HCALL := Lib.hid (HROT.out s m E d wo ZSM.out ZME.out ZEB.out hdn S1.out)
              go_wp2_with fail
              refine HCALL.out.mono ?_
              rintro e w5 ⟨rfl, d5, hd5, S5, hf5⟩
              have HF5 := Lib.hid hf5
              have S5 := Lib.hid S5
              clear hf5 HCALL
              obtain ⟨d6, hd6, S6, HF6⟩ : ∃ d6 : Array Tm, d6.size = n ∧ Hid (SWT w0 blk d6 w5) ∧ Hid (Done (fn d5) (fn d6) a M) := ⟨d5, hd5, S5, Lib.hid (.refl (by rw [HF5.out]; have := HC.out.s2; rw [ZSA.out] at this ⊢; exact this))⟩
              go_wp2_with fail
              go_end0
              have hf5 := HF5.out
              have hf6 := HF6.out
              have hl : Srt (fn d6) M b := by
                intro p q p1 p2 p3
                rw [hf6.els p (.inr p1), hf6.els q (.inr (by omega)), hf5]
                have := HC.out.s3; rw [ZEB3.out] at this ⊢; exact this p q p1 p2 p3
              rw [hf5] at hf6
              exact ⟨rfl, d6, hd6.trans hdn.symm, S6.out, HC.out.cut.join hf6 (.refl hl) (by have := ZMH.out; omega) (by have := ZMH.out; omega)⟩
            · have ZSM : Hid (s < m) := Lib.hid (by omega)
              have ZME : Hid (m < E) := Lib.hid (by omega)
              have ZEB : Hid (E ≤ n) := Lib.hid (by omega)
              have ZSM2 : Hid (s < M) := Lib.hid (by omega)
              have ZMLE : Hid (M < E) := Lib.hid (by omega)
              have ZSA : Hid (s = a) := Lib.hid (by omega)
              have ZEB2 : Hid (E < b) := Lib.hid (by omega)
              have z1 : (s : Int) < (m : Int) := by omega
              have z2 : (m : Int) < (E : Int) := by omega
              have z4 : (s : Int) < (M : Int) := by omega
              have z5 : (M : Int) < (E : Int) := by omega
              have z3 : ¬ (a : Int) < (s : Int) := by omega
              have z6 : (E : Int) < (b : Int) := by omega
              clear has heb hsM hsm hAS hSM hSMM hME hEB hSUM hMH
              have HCALL := Lib.hid (HROT.out s m E d wo ZSM.out ZME.out ZEB.out hdn S1.out)
              go_wp2_with fail
              refine HCALL.out.mono ?_
              rintro e w5 ⟨rfl, d5, hd5, S5, hf5⟩
              have HF5 := Lib.hid hf5
              have S5 := Lib.hid S5
              clear hf5 HCALL
              obtain ⟨d6, hd6, S6, HF6⟩ : ∃ d6 : Array Tm, d6.size = n ∧ Hid (SWT w0 blk d6 w5) ∧ Hid (Done (fn d5) (fn d6) a M) := ⟨d5, hd5, S5, Lib.hid (.refl (by rw [HF5.out]; have := HC.out.s2; rw [ZSA.out] at this ⊢; exact this))⟩
              have HCALL := Lib.hid (HREC.out M E b d6 w5 (by have := ZMH.out; omega) ZMLE.out ZEB2.out hbn hd6 S6.out (by
                intro p q p1 p2 p3
                rw [HF6.out.els p (.inr p1), HF6.out.els q (.inr (by omega)), HF5.out]
                exact HC.out.s3 p q p1 p2 p3) (by
                intro p q p1 p2 p3
                have := HC.out.mE
                rw [HF6.out.els p (.inr (by have := ZMLE.out; omega)), HF6.out.els q (.inr (by have := ZMLE.out; omega)), HF5.out]
                exact HC.out.s4 p q p1 p2 p3))
              go_wp2_with fail
              refine HCALL.out.mono ?_
              rintro e w7 ⟨rfl, d7, hd7, S7, hf7⟩
              go_wp2_with fail
              go_end0
              have hf5 := HF5.out
              have hf6 := HF6.out
              rw [hf5] at hf6
              exact ⟨rfl, d7, hd7.trans (hd6.trans hdn.symm), S7, HC.out.cut.join hf6 hf7 (by have := ZMH.out; omega) (by have := ZMH.out; omega)⟩
          · rcases Nat.eq_or_lt_of_le hEB with heb | heb
            · have ZSM : Hid (s < m) := Lib.hid (by omega)
              have ZME : Hid (m < E) := Lib.hid (by omega)
              have ZEB : Hid (E ≤ n) := Lib.hid (by omega)
              have ZSM2 : Hid (s < M) := Lib.hid (by omega)
              have ZMLE : Hid (M < E) := Lib.hid (by omega)
              have ZAS : Hid (a < s) := Lib.hid (by omega)
              have ZEB3 : Hid (E = b) := Lib.hid (by omega)
              have z1 : (s : Int) < (m : Int) := by omega
              have z2 : (m : Int) < (E : Int) := by omega
              have z4 : (s : Int) < (M : Int) := by omega
              have z5 : (M : Int) < (E : Int) := by omega
              have z3 : (a : Int) < (s : Int) := by omega
              have z6 : ¬ (E : Int) < (b : Int) := by omega
              clear has heb hsM hsm hAS hSM hSMM hME hEB hSUM hMH
              have HCALL := Lib.hid (HROT.out s m E d wo ZSM.out ZME.out ZEB.out hdn S1.out)
              go_wp2_with fail
              refine HCALL.out.mono ?_
              rintro e w5 ⟨rfl, d5, hd5, S5, hf5⟩
              have HF5 := Lib.hid hf5
              have S5 := Lib.hid S5
              clear hf5 HCALL
              have HCALL := Lib.hid (HREC.out a s M d5 w5 (by have := ZMH.out; omega) ZAS.out ZSM2.out (by have := ZMH.out; omega) hd5 S5.out (by rw [HF5.out]; exact HC.out.s1) (by rw [HF5.out]; exact HC.out.s2))
              go_wp2_with fail
              refine HCALL.out.mono ?_
              rintro e w6 ⟨rfl, d6, hd6, S6, hf6⟩
              have HF6 := Lib.hid hf6
              have S6 := Lib.hid S6
              have hd6 : d6.size = n := hd6.trans hd5
              clear hf6 HCALL
              go_wp2_with fail
              go_end0
              have hf5 := HF5.out
              have hf6 := HF6.out
              have hl : Srt (fn d6) M b := by
                intro p q p1 p2 p3
                rw [hf6.els p (.inr p1), hf6.els q (.inr (by omega)), hf5]
                have := HC.out.s3; rw [ZEB3.out] at this ⊢; exact this p q p1 p2 p3
              rw [hf5] at hf6
              exact ⟨rfl, d6, hd6.trans hdn.symm, S6.out, HC.out.cut.join hf6 (.refl hl) (by have := ZMH.out; omega) (by have := ZMH.out; omega)⟩
            · have ZSM : Hid (s < m) := Lib.hid (by omega)
              have ZME : Hid (m < E) := Lib.hid (by omega)
              have ZEB : Hid (E ≤ n) := Lib.hid (by omega)
              have ZSM2 : Hid (s < M) := Lib.hid (by omega)
              have ZMLE : Hid (M < E) := Lib.hid (by omega)
              have ZAS : Hid (a < s) := Lib.hid (by omega)
              have ZEB2 : Hid (E < b) := Lib.hid (by omega)
              have z1 : (s : Int) < (m : Int) := by omega
              have z2 : (m : Int) < (E : Int) := by omega
              have z4 : (s : Int) < (M : Int) := by omega
              have z5 : (M : Int) < (E : Int) := by omega
              have z3 : (a : Int) < (s : Int) := by omega
              have z6 : (E : Int) < (b : Int) := by omega
              clear has heb hsM hsm hAS hSM hSMM hME hEB hSUM hMH
              have HCALL := Lib.hid (HROT.out s m E d wo ZSM.out ZME.out ZEB.out hdn S1.out)
              go_wp2_with fail
              refine HCALL.out.mono ?_
              rintro e w5 ⟨rfl, d5, hd5, S5, hf5⟩
              have HF5 := Lib.hid hf5
              have S5 := Lib.hid S5
              clear hf5 HCALL
              have HCALL := Lib.hid (HREC.out a s M d5 w5 (by have := ZMH.out; omega) ZAS.out ZSM2.out (by have := ZMH.out; omega) hd5 S5.out (by rw [HF5.out]; exact HC.out.s1) (by rw [HF5.out]; exact HC.out.s2))
              go_wp2_with fail
              refine HCALL.out.mono ?_
              rintro e w6 ⟨rfl, d6, hd6, S6, hf6⟩
              have HF6 := Lib.hid hf6
              have S6 := Lib.hid S6
              have hd6 : d6.size = n := hd6.trans hd5
              clear hf6 HCALL
              have HCALL := Lib.hid (HREC.out M E b d6 w6 (by have := ZMH.out; omega) ZMLE.out ZEB2.out hbn hd6 S6.out (by
                intro p q p1 p2 p3
                rw [HF6.out.els p (.inr p1), HF6.out.els q (.inr (by omega)), HF5.out]
                exact HC.out.s3 p q p1 p2 p3) (by
                intro p q p1 p2 p3
                have := HC.out.mE
                rw [HF6.out.els p (.inr (by have := ZMLE.out; omega)), HF6.out.els q (.inr (by have := ZMLE.out; omega)), HF5.out]
                exact HC.out.s4 p q p1 p2 p3))
              go_wp2_with fail
              refine HCALL.out.mono ?_
              rintro e w7 ⟨rfl, d7, hd7, S7, hf7⟩
              go_wp2_with fail
              go_end0
              have hf5 := HF5.out
              have hf6 := HF6.out
              rw [hf5] at hf6
              exact ⟨rfl, d7, hd7.trans (hd6.trans hdn.symm), S7, HC.out.cut.join hf6 hf7 (by have := ZMH.out; omega) (by have := ZMH.out; omega)⟩
      · have ZSE : Hid (s = m) := Lib.hid (by omega)
        have ZSMM : Hid (s = M) := Lib.hid (by omega)
        have ZEMM : Hid (E = M) := Lib.hid (by omega)
        have z1 : ¬ (s : Int) < (m : Int) := by omega
        have z3 : (a : Int) < (s : Int) := by omega
        have z4 : ¬ (s : Int) < (M : Int) := by omega
        have z5 : ¬ (M : Int) < (E : Int) := by omega
        clear hsM hAS hSM hSMM hME hEB hSUM hMH
        obtain ⟨d5, hd5, S5, HF5⟩ : ∃ d5 : Array Tm, d5.size = n ∧ Hid (SWT w0 blk d5 wo) ∧ Hid (fn d5 = rotF (fn d) s m E) := ⟨d, hdn, S1.out, Lib.hid (by rw [ZSE.out, rot_self])⟩
        obtain ⟨d6, hd6, S6, HF6⟩ : ∃ d6 : Array Tm, d6.size = n ∧ Hid (SWT w0 blk d6 wo) ∧ Hid (Done (fn d5) (fn d6) a M) := ⟨d5, hd5, S5, Lib.hid (.refl (by rw [HF5.out]; have := HC.out.s1; rw [ZSMM.out] at this ⊢; exact this))⟩
        go_wp2_with fail
        go_end0
        have hf5 := HF5.out
        have hf6 := HF6.out
        have hl : Srt (fn d6) M b := by
          intro p q p1 p2 p3
          rw [hf6.els p (.inr p1), hf6.els q (.inr (by omega)), hf5]
          have := HC.out.s4; rw [ZEMM.out] at this ⊢; exact this p q p1 p2 p3
        rw [hf5] at hf6
        exact ⟨rfl, d6, hd6.trans hdn.symm, S6.out, HC.out.cut.join hf6 (.refl hl) (by have := ZMH.out; omega) (by have := ZMH.out; omega)⟩
theorem sym_all (blk cap n : Nat) (d0 : Array Tm) (w0 : World) (R : RowT w0 blk d0) (hs : d0.size = n) (hsz : n < 1000000) : ∀ k, SymRec w0 blk cap n k
  | 0 => fun a m b dk W h => absurd h (Nat.not_lt_zero _)
  | k + 1 => fun a m b dk W h ham hmb hbn hdn S h1 h2 => by
    by_cases c1 : m = a + 1
    · subst c1
      have := sym_one blk cap a b d0 dk w0 W R (by omega) S (by omega) (by omega) (by omega) h2
      rw [hdn] at this
      simpa using this
    · by_cases c2 : b = m + 1
      · subst c2
        have := sym_two blk cap a m d0 dk w0 W R (by omega) S (by omega) (by omega) (by omega) h1
        rw [hdn] at this
        simpa using this
      · have hr : SymRec w0 blk cap n (b - a) := fun a' m' b' dk' W' h' => sym_all blk cap n d0 w0 R hs hsz k a' m' b' dk' W' (by omega)
        have hro : RotRec w0 blk cap n := fun a' m' b' dk' W' g1 g2 g3 g4 g5 => by
          have := rotate_any blk cap a' m' b' d0 dk' w0 W' cmpV R (by omega) g5 g1 g2 (by omega) (by omega)
          rw [g4] at this
          exact this
        by_cases c3 : (a + b) / 2 < m
        · exact sym_hi blk cap n a m b _ d0 dk w0 W R hs hdn S (by omega) (by omega) hbn hsz h1 h2 rfl c3 hr hro
        · exact sym_lo blk cap n a m b _ d0 dk w0 W R hs hdn S (by omega) (by omega) hbn hsz h1 h2 rfl c3 hr hro
end Go.Proofs.Ytlfiijlfokckkaa
