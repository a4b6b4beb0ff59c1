/- slices.SortStableFunc over timers. -/
import Derived.Test.YtlfiijlfokckkaaYsy3
namespace Go.Proofs.Ytlfiijlfokckkaa
open Go.ChangeShapes Go.WideShapes Go.ChangeAt Go.RowKit Go.Sort Go.Lib
set_option linter.unusedVariables false

/-- the blocks of s that begin below a are sorted -/
def Bks (f : Nat → Tm) (s a n : Nat) : Prop := ∀ a', s ∣ a' → a' < a → Srt f a' (min (a' + s) n)
/-- the blocks of s that begin at a or behind are sorted -/
def Rst (f : Nat → Tm) (s a n : Nat) : Prop := ∀ a', s ∣ a' → a ≤ a' → a' < n → Srt f a' (min (a' + s) n)
theorem dvd_apart {s a a' : Nat} (h : s ∣ a) (h' : s ∣ a') (hlt : a' < a) : a' + s ≤ a := by
  have := Nat.le_of_dvd (by omega) (Nat.dvd_sub h h')
  omega
theorem Srt.congr {f g : Nat → Tm} {a b : Nat} (h : Srt f a b) (he : ∀ i, a ≤ i → i < b → g i = f i) : Srt g a b := fun p q h1 h2 h3 => by
  rw [he p (by omega) (by omega), he q (by omega) h3]
  exact h p q h1 h2 h3
theorem Bks.step {f g : Nat → Tm} {s a b n : Nat} (h : Bks f s a n) (hd : s ∣ a) (hg : Done f g a b) (hb : b = min (a + s) n) (h0 : 0 < s) : Bks g s (a + s) n := fun a' h1 h2 => by
  by_cases hlt : a' < a
  · have := dvd_apart hd h1 hlt
    exact (h a' h1 hlt).congr fun i i1 i2 => hg.els i (.inl (by omega))
  · have : a' = a := by
      rcases Nat.lt_or_ge a a' with h3 | h3
      · have := dvd_apart h1 hd h3; omega
      · omega
    subst this
    rw [← hb]
    exact hg.srt
theorem Bks.none {f : Nat → Tm} {s n : Nat} : Bks f s 0 n := fun a' _ h => absurd h (Nat.not_lt_zero _)
theorem Bks.all {f : Nat → Tm} {s a n : Nat} (h : Bks f s a n) (hn : n ≤ a) : Rst f s 0 n := fun a' h1 _ h3 => h a' h1 (by omega)
theorem Rst.step {f g : Nat → Tm} {s a b c n : Nat} (h : Rst f s a n) (hg : Done f g a b) (hb : b ≤ c) (hac : a ≤ c) : Rst g s c n := fun a' h1 h2 h3 =>
  (h a' h1 (by omega) h3).congr fun i i1 i2 => hg.els i (.inr (by omega))
theorem Rst.whole {f : Nat → Tm} {s n : Nat} (h : Rst f s 0 n) (hs : n ≤ s) : Srt f 0 n := by
  by_cases h0 : n = 0
  · subst h0; intro p q h1 h2 h3; omega
  · have := h 0 (Nat.dvd_zero _) (Nat.le_refl _) (by omega)
    rwa [Nat.zero_add, Nat.min_eq_right hs] at this
/-- what a half gives to a merge -/
theorem Rst.left {f : Nat → Tm} {s a n : Nat} (h : Rst f s a n) (hd : s ∣ a) (hlt : a + s ≤ n) (h0 : 0 < s) : Srt f a (a + s) := by
  have := h a hd (Nat.le_refl _) (by omega)
  rwa [Nat.min_eq_left hlt] at this
theorem Rst.right {f : Nat → Tm} {s a b n : Nat} (h : Rst f s a n) (hd : s ∣ a) (hlt : a + s < n) (hb : b = min (a + s + s) n) : Srt f (a + s) b := by
  have := h (a + s) ((Nat.dvd_add_iff_right hd).1 (Nat.dvd_refl _)) (by omega) hlt
  rwa [hb]
theorem Rst.last {f : Nat → Tm} {s a n : Nat} (h : Rst f s a n) (hd : s ∣ a) (han : a ≤ n) (hlt : n ≤ a + s) : Srt f a n := by
  by_cases hn : a = n
  · subst hn; intro p q h1 h2 h3; omega
  · have := h a hd (Nat.le_refl _) (by omega)
    rwa [Nat.min_eq_right hlt] at this

set_option maxHeartbeats 8000000 in
set_option maxRecDepth 1000000 in
theorem stable_any (blk cap n : Nat) (d : Array Tm) (w : World) (R : RowT w blk d) (hn : d.size = n) (hsz : n ≤ 5000) :
    Calls Try.prog 21 #[.slice (some ⟨blk, 0, none⟩) n cap, .int .i64 (n : Int), cmpV] w fun e w' => e = .returned (.tuple #[]) ∧ ∃ d' : Array Tm, d'.size = n ∧ SWT w blk d' w' ∧ Srt (fn d') 0 n ∧ ∀ x, filt (fn d') 0 n x = filt (fn d) 0 n x := by
  have S0 : Aside (SWT w blk d w) := SWK.start R.hH
  have HI : Hid (∀ (a b : Nat) (dk : Array Tm) (W : World), a ≤ b → b ≤ n → dk.size = n → SWT w blk dk W → Calls Try.prog 23 #[.slice (some ⟨blk, 0, none⟩) n cap, .int .i64 (a : Int), .int .i64 (b : Int), cmpV] W fun e w' => e = .returned (.tuple #[]) ∧ ∃ d' : Array Tm, d'.size = n ∧ SWT w blk d' w' ∧ Done (fn dk) (fn d') a b) := Lib.hid fun a b dk W h1 h2 h3 h4 => by
    have := insertion_any blk cap a b d dk w W R (by omega) h4 h1 (by omega) (by omega)
    rw [h3] at this
    exact this
  have HM := Lib.hid (fun k => sym_all blk cap n d w R hn (by omega) k)
  go_enter Try.func21, Try.ntmps21
  go_wp2
  go_loopg [7, 8] n (fun g1 va vb wr => ∃ (a b : Nat) (dk : Array Tm), va = .int .i64 (a : Int) ∧ vb = .int .i64 (b : Int) ∧ Hid (b = a + 20 ∧ 20 ∣ a) ∧ a ≤ n ∧ n - a ≤ g1 ∧ dk.size = n ∧ Aside (SWT w blk dk wr) ∧ Hid (Bks (fn dk) 20 a n ∧ ∀ x, filt (fn dk) 0 n x = filt (fn d) 0 n x))
  case atStart => exact ⟨0, 20, d, rfl, rfl, Lib.hid ⟨rfl, by decide⟩, Nat.zero_le _, by omega, hn, S0, Lib.hid ⟨.none, fun _ => rfl⟩⟩
  case round =>
    clear S0
    obtain ⟨a, b, dk, rfl, rfl, HB, han, hg1, hsk, S1, HO⟩ := hrel
    obtain ⟨wo, rfl⟩ : ∃ W : World, W = wr := ⟨_, rfl⟩
    by_cases hlt : b ≤ n
    · have hltz : (b : Int) ≤ (n : Int) := by omega
      have hc := HI.out a b dk wo (by have := HB.out.1; omega) hlt hsk S1.out
      have HC := Lib.hid hc
      obtain ⟨B, HBn⟩ : ∃ B, Hid (B = b + 20) := ⟨_, Lib.hid rfl⟩
      have wb : IntKind.i64.wrap ((b : Int) + 20) = (B : Int) := by have := HBn.out; rw [IntKind.wrap_i64]; omega
      clear hc
      go_wp2_with fail
      refine HC.out.mono ?_
      rintro e w5 ⟨rfl, d5, hd5, S5, hf5⟩
      have HS5 := Lib.hid S5
      have HF5 := Lib.hid hf5
      clear S5 hf5
      go_wp2
      have hB := HB.out.1
      go_roundg (n - b)
      case measure => omega
      case rel => exact ⟨b, B, d5, rfl, rfl, Lib.hid ⟨HBn.out, by rw [hB]; exact (Nat.dvd_add_iff_right HB.out.2).1 (Nat.dvd_refl _)⟩, hlt, by omega, hd5, HS5.out, Lib.hid ⟨by
        have := HO.out.1.step HB.out.2 HF5.out (by omega) (by omega)
        rwa [← hB] at this, fun x => by rw [filt_wide HF5.out.filt HF5.out.els (Nat.zero_le _) (by omega) hlt]; exact HO.out.2 x⟩⟩
    · have hltz : ¬ (b : Int) ≤ (n : Int) := by omega
      have hc := HI.out a n dk wo han (Nat.le_refl _) hsk S1.out
      have HC := Lib.hid hc
      clear hc
      go_wp2_with fail
      refine HC.out.mono ?_
      rintro e w5 ⟨rfl, d5, hd5, S5, hf5⟩
      have HS5 := Lib.hid S5
      have HR5 : Hid (Rst (fn d5) 20 0 n ∧ ∀ x, filt (fn d5) 0 n x = filt (fn d) 0 n x) := Lib.hid ⟨(HO.out.1.step HB.out.2 hf5 (by have := HB.out.1; omega) (by omega)).all (by have := HB.out.1; omega), fun x => by rw [filt_wide hf5.filt hf5.els (Nat.zero_le _) han (Nat.le_refl _)]; exact HO.out.2 x⟩
      clear S5 hf5 HO HC S1 HI
      go_wp2
      go_loopg [6] n (fun g2 vs wr => ∃ (s : Nat) (dk : Array Tm), vs = .int .i64 (s : Int) ∧ 0 < s ∧ s < 20000 ∧ n - s ≤ g2 ∧ dk.size = n ∧ Aside (SWT w blk dk wr) ∧ Hid (Rst (fn dk) s 0 n ∧ ∀ x, filt (fn dk) 0 n x = filt (fn d) 0 n x))
      case atStart => exact ⟨20, d5, rfl, by omega, by omega, by omega, hd5, HS5.out, HR5⟩
      case round =>
        clear HS5 HR5 HB
        obtain ⟨s, dk, rfl, hs0, hs2, hg2, hsk, S1, HO⟩ := hrel
        obtain ⟨wo2, rfl⟩ : ∃ W : World, W = wr := ⟨_, rfl⟩
        by_cases hsn : s < n
        · have hsz2 : (s : Int) < (n : Int) := by omega
          obtain ⟨T, HT⟩ : ∃ T, Hid (T = s + s) := ⟨_, Lib.hid rfl⟩
          have wt : IntKind.i64.wrap (2 * (s : Int)) = (T : Int) := by have := HT.out; rw [IntKind.wrap_i64]; omega
          have wt2 : IntKind.i64.wrap ((s : Int) * 2) = (T : Int) := by have := HT.out; rw [IntKind.wrap_i64]; omega
          go_wp2
          go_loopg [7, 8] n (fun g3 va vb wr => ∃ (a b : Nat) (dk : Array Tm), va = .int .i64 (a : Int) ∧ vb = .int .i64 (b : Int) ∧ Hid (b = a + T ∧ T ∣ a) ∧ a ≤ n ∧ n - a ≤ g3 ∧ dk.size = n ∧ Aside (SWT w blk dk wr) ∧ Hid (Bks (fn dk) T a n ∧ Rst (fn dk) s a n ∧ ∀ x, filt (fn dk) 0 n x = filt (fn d) 0 n x))
          case atStart => exact ⟨0, T, dk, rfl, rfl, Lib.hid ⟨by omega, Nat.dvd_zero _⟩, Nat.zero_le _, by omega, hsk, S1, Lib.hid ⟨.none, HO.out.1, HO.out.2⟩⟩
          case round =>
            clear S1 HO
            obtain ⟨a, b, dk, rfl, rfl, HB, han, hg3, hsk, S1, HO⟩ := hrel
            obtain ⟨wo3, rfl⟩ : ∃ W : World, W = wr := ⟨_, rfl⟩
            have hT := HT.out
            have HSA : Hid (s ∣ a) := Lib.hid (Nat.dvd_trans ⟨2, by omega⟩ HB.out.2)
            obtain ⟨C, HCm⟩ : ∃ C, Hid (C = a + s) := ⟨_, Lib.hid rfl⟩
            have wc : IntKind.i64.wrap ((a : Int) + (s : Int)) = (C : Int) := by have := HCm.out; rw [IntKind.wrap_i64]; omega
            have hC := HCm.out
            have hB := HB.out.1
            by_cases hlt : b ≤ n
            · have hltz : (b : Int) ≤ (n : Int) := by omega
              have hc := HM.out (b - a + 1) a C b dk wo3 (by omega) (by omega) (by omega) hlt hsk S1.out (by rw [hC]; exact HO.out.2.1.left HSA.out (by omega) hs0) (by rw [hC]; exact HO.out.2.1.right HSA.out (by omega) (by omega))
              have HC := Lib.hid hc
              obtain ⟨B, HBn⟩ : ∃ B, Hid (B = b + T) := ⟨_, Lib.hid rfl⟩
              have wb : IntKind.i64.wrap ((b : Int) + (T : Int)) = (B : Int) := by have := HBn.out; rw [IntKind.wrap_i64]; omega
              clear hc hT hC hB
              go_wp2_with fail
              refine HC.out.mono ?_
              rintro e w5 ⟨rfl, d5, hd5, S5, hf5⟩
              have HS5 := Lib.hid S5
              have HF5 := Lib.hid hf5
              clear S5 hf5
              go_wp2
              have hB := HB.out.1
              have hT := HT.out
              go_roundg (n - b)
              case measure => omega
              case rel => exact ⟨b, B, d5, rfl, rfl, Lib.hid ⟨HBn.out, by rw [hB]; exact (Nat.dvd_add_iff_right HB.out.2).1 (Nat.dvd_refl _)⟩, hlt, by omega, by rw [hd5, hsk], HS5.out, Lib.hid ⟨by
                have := HO.out.1.step HB.out.2 HF5.out (by omega) (by omega)
                rwa [← hB] at this, HO.out.2.1.step HF5.out (Nat.le_refl _) (by omega), fun x => by rw [filt_wide HF5.out.filt HF5.out.els (Nat.zero_le _) (by omega) hlt]; exact HO.out.2.2 x⟩⟩
            · have hltz : ¬ (b : Int) ≤ (n : Int) := by omega
              by_cases hcn : C < n
              · have hcnz : (C : Int) < (n : Int) := by omega
                have hc := HM.out (n - a + 1) a C n dk wo3 (by omega) (by omega) hcn (Nat.le_refl _) hsk S1.out (by rw [hC]; exact HO.out.2.1.left HSA.out (by omega) hs0) (by rw [hC]; exact HO.out.2.1.right HSA.out (by omega) (by omega))
                have HC := Lib.hid hc
                clear hc hT hC hB
                go_wp2_with fail
                refine HC.out.mono ?_
                rintro e w5 ⟨rfl, d5, hd5, S5, hf5⟩
                have HS5 := Lib.hid S5
                have HF5 := Lib.hid hf5
                clear S5 hf5
                go_wp2
                have hB := HB.out.1
                have hT := HT.out
                go_roundg (n - T)
                case measure => omega
                case rel => exact ⟨T, d5, rfl, by omega, by omega, by omega, by rw [hd5, hsk], HS5.out, Lib.hid ⟨(HO.out.1.step HB.out.2 HF5.out (by omega) (by omega)).all (by omega), fun x => by rw [filt_wide HF5.out.filt HF5.out.els (Nat.zero_le _) (by omega) (Nat.le_refl _)]; exact HO.out.2.2 x⟩⟩
              · have hcnz : ¬ (C : Int) < (n : Int) := by omega
                clear hT hC hB
                go_wp2
                have hB := HB.out.1
                have hT := HT.out
                have hC := HCm.out
                go_roundg (n - T)
                case measure => omega
                case rel => exact ⟨T, dk, rfl, by omega, by omega, by omega, hsk, S1.out, Lib.hid ⟨(HO.out.1.step HB.out.2 (Done.refl (HO.out.2.1.last HSA.out han (by omega))) (by omega) (by omega)).all (by omega), HO.out.2.2⟩⟩
        · have hsz2 : ¬ (s : Int) < (n : Int) := by omega
          go_wp2
          go_end0
          exact ⟨rfl, dk, hsk, S1.out, HO.out.1.whole (by omega), HO.out.2⟩
theorem sortStable_any (blk cap n : Nat) (d : Array Tm) (w : World) (R : RowT w blk d) (hn : d.size = n) (hsz : n ≤ 5000) :
    Calls Try.prog 18 #[.slice (some ⟨blk, 0, none⟩) n cap, cmpV] w fun e w' => e = .returned (.tuple #[]) ∧ ∃ d' : Array Tm, d'.size = n ∧ SWT w blk d' w' ∧ Srt (fn d') 0 n ∧ ∀ x, filt (fn d') 0 n x = filt (fn d) 0 n x := by
  have HC := Lib.hid (stable_any blk cap n d w R hn hsz)
  clear R
  go_enter Try.func18, Try.ntmps18
  go_wp2_with fail
  refine HC.out.mono ?_
  rintro e w5 ⟨rfl, d5, hd5, S5, hf5⟩
  go_wp2
  go_end0
  exact ⟨rfl, d5, hd5, S5, hf5⟩
end Go.Proofs.Ytlfiijlfokckkaa
