/- slices.symMergeCmpFunc over timers. -/
import Derived.Test.YtlfiijlfokckkaaYins
import Derived.Test.YtlfiijlfokckkaaYrot
namespace Go.Proofs.Ytlfiijlfokckkaa
open Go.ChangeShapes Go.WideShapes Go.ChangeAt Go.RowKit Go.Sort Go.Lib
set_option linter.unusedVariables false

/-- one on the left goes in among those on the right -/
theorem sym_left {f : Nat → Tm} {a b i : Nat} (hs : Srt f (a + 1) b) (h1 : a + 1 ≤ i) (h2 : i ≤ b) (hl : i = a + 1 ∨ (f (i - 1)).tick < (f a).tick) (hr : i = b ∨ (f a).tick ≤ (f i).tick) : Done f (rotF f a (a + 1) i) a b := by
  have hlt : ∀ q, a + 1 ≤ q → q < i → (f q).tick < (f a).tick := fun q q1 q2 => by
    rcases hl with hl | hl
    · omega
    · by_cases hq : q = i - 1
      · subst hq; exact hl
      · have := hs q (i - 1) q1 (by omega) (by omega); omega
  have hle : ∀ q, i ≤ q → q < b → (f a).tick ≤ (f q).tick := fun q q1 q2 => by
    rcases hr with hr | hr
    · omega
    · by_cases hq : q = i
      · subst hq; exact hr
      · have := hs i q (by omega) (by omega) q2; omega
  obtain ⟨hc, s1, s2, s3, s4⟩ := rot_cut (f := f) (a := a) (s := a) (m := a + 1) (e := i) (b := b) (fun p q h1 h2 h3 => by omega) hs (Nat.le_refl _) (by omega) h1 h2 (fun p q p1 p2 q1 q2 => by
    obtain rfl : p = a := by omega
    exact hlt q q1 q2) (fun p q p1 p2 => by omega)
  refine hc.join (.refl s2) (.refl ?_) (by omega) (by omega)
  intro p q p1 p2 q2
  by_cases hp : p < i
  · by_cases hq : q < i
    · exact s3 p q p1 p2 hq
    · have e1 : rotF f a (a + 1) i p = f a := by unfold rotF; rw [if_neg (by omega), if_pos (by omega)]; congr 1; omega
      have e2 : rotF f a (a + 1) i q = f q := by unfold rotF; rw [if_neg (by omega), if_neg (by omega)]
      rw [e1, e2]
      exact hle q (by omega) q2
  · exact s4 p q (by omega) p2 q2
/-- one on the right goes in among those on the left -/
theorem sym_right {f : Nat → Tm} {a m i : Nat} (hs : Srt f a m) (h1 : a ≤ i) (h2 : i ≤ m) (hl : i = a ∨ (f (i - 1)).tick ≤ (f m).tick) (hr : i = m ∨ (f m).tick < (f i).tick) : Done f (rotF f i m (m + 1)) a (m + 1) := by
  have hle : ∀ p, a ≤ p → p < i → (f p).tick ≤ (f m).tick := fun p p1 p2 => by
    rcases hl with hl | hl
    · omega
    · by_cases hp : p = i - 1
      · subst hp; exact hl
      · have := hs p (i - 1) p1 (by omega) (by omega); omega
  have hlt : ∀ p, i ≤ p → p < m → (f m).tick < (f p).tick := fun p p1 p2 => by
    rcases hr with hr | hr
    · omega
    · by_cases hp : p = i
      · subst hp; exact hr
      · have := hs i p h1 (by omega) p2; omega
  obtain ⟨hc, s1, s2, s3, s4⟩ := rot_cut (f := f) (a := a) (s := i) (m := m) (e := m + 1) (b := m + 1) hs (fun p q h1 h2 h3 => by omega) h1 h2 (by omega) (Nat.le_refl _) (fun p q p1 p2 q1 q2 => by
    obtain rfl : q = m := by omega
    exact hlt p p1 p2) (fun p q p1 p2 q1 q2 => by omega)
  refine hc.join (.refl ?_) (.refl s3) (by omega) (by omega)
  intro p q p1 p2 q2
  by_cases hq : q < i
  · exact s1 p q p1 p2 hq
  · have hqi : q = i := by omega
    have e1 : rotF f i m (m + 1) p = f p := by unfold rotF; rw [if_neg (by omega), if_neg (by omega)]
    have e2 : rotF f i m (m + 1) q = f m := by unfold rotF; rw [if_pos (by omega)]; congr 1; omega
    rw [e1, e2]
    exact hle p p1 (by omega)
/-- where the search ends the halves may change places -/
theorem sym_cut {f : Nat → Tm} {a m b mid lo hi s : Nat} (hs : Srt f a m) (hs' : Srt f m b) (ham : a < m) (hmb : m < b) (hmid : mid = (a + b) / 2) (hlo : lo = if mid < m then mid + m - b else a) (hhi : hi = if mid < m then mid else m)
    (h1 : lo ≤ s) (h2 : s ≤ hi) (hl : s = lo ∨ (f (s - 1)).tick ≤ (f (mid + m - s)).tick) (hr : s = hi ∨ (f (mid + m - 1 - s)).tick < (f s).tick) :
    a ≤ s ∧ s ≤ m ∧ s ≤ mid ∧ m ≤ mid + m - s ∧ mid + m - s ≤ b ∧ s + (mid + m - s - m) = mid ∧ (∀ p q, s ≤ p → p < m → m ≤ q → q < mid + m - s → (f q).tick < (f p).tick) ∧ (∀ p q, a ≤ p → p < s → mid + m - s ≤ q → q < b → (f p).tick ≤ (f q).tick) := by
  have hb : a ≤ s ∧ s ≤ m ∧ s ≤ mid ∧ mid + m - s ≤ b := by
    by_cases hc : mid < m
    · rw [if_pos hc] at hlo hhi; omega
    · rw [if_neg hc] at hlo hhi; omega
  obtain ⟨b1, b2, b3, b4⟩ := hb
  refine ⟨b1, b2, b3, by omega, b4, by omega, ?_, ?_⟩
  · intro p q p1 p2 q1 q2
    rcases hr with hr | hr
    · exfalso
      by_cases hc : mid < m
      · rw [if_pos hc] at hhi; omega
      · rw [if_neg hc] at hhi; omega
    · have e1 : (f q).tick ≤ (f (mid + m - 1 - s)).tick := by
        by_cases hq : q = mid + m - 1 - s
        · rw [hq]; exact Int.le_refl _
        · exact hs' q _ q1 (by omega) (by omega)
      have e2 : (f s).tick ≤ (f p).tick := by
        by_cases hp : p = s
        · rw [hp]; exact Int.le_refl _
        · exact hs s p b1 (by omega) p2
      omega
  · intro p q p1 p2 q1 q2
    rcases hl with hl | hl
    · exfalso
      by_cases hc : mid < m
      · rw [if_pos hc] at hlo; omega
      · rw [if_neg hc] at hlo; omega
    · have e1 : (f p).tick ≤ (f (s - 1)).tick := by
        by_cases hp : p = s - 1
        · rw [hp]; exact Int.le_refl _
        · exact hs p _ p1 (by omega) (by omega)
      have e2 : (f (mid + m - s)).tick ≤ (f q).tick := by
        by_cases hq : q = mid + m - s
        · rw [hq]; exact Int.le_refl _
        · exact hs' _ q (by omega) (by omega) q2
      omega
def SymPost (w0 : World) (blk : Nat) (d : Array Tm) (a b : Nat) (e : Ending) (w' : World) : Prop := e = .returned (.tuple #[]) ∧ ∃ d' : Array Tm, d'.size = d.size ∧ SWT w0 blk d' w' ∧ Done (fn d) (fn d') a b

set_option maxHeartbeats 4000000 in
set_option maxRecDepth 1000000 in
theorem sym_one (blk cap a b : Nat) (d0 d : Array Tm) (w0 w : World) (R : RowT w0 blk d0) (hs : d0.size = d.size) (S : SWT w0 blk d w) (hab : a + 1 < b) (hb : b ≤ d.size) (hsz : d.size < 1000000) (h1 : Srt (fn d) (a + 1) b) :
    Calls Try.prog 24 #[.slice (some ⟨blk, 0, none⟩) d.size cap, .int .i64 (a : Int), .int .i64 ((a : Int) + 1), .int .i64 (b : Int), cmpV] w fun e w' => SymPost w0 blk d a b e w' := by
  have S0 : Aside (SWT w0 blk d w) := S
  have HD := Lib.hid due1_grown
  have H1 := Lib.hid h1
  have eg := enters19
  have mixed : Try.prog.follows .mixedOrders = true := by kernel_rfl
  have wm : IntKind.i64.wrap ((a : Int) + 1 - (a : Int)) = 1 := by rw [IntKind.wrap_i64]; omega
  clear S h1
  go_enter Try.func24, Try.ntmps24
  go_wp2
  go_loopg [10, 11] b (fun g1 vi vj wr => ∃ (i j : Nat), vi = .int .i64 (i : Int) ∧ vj = .int .i64 (j : Int) ∧ a + 1 ≤ i ∧ i ≤ j ∧ j ≤ b ∧ j - i ≤ g1 ∧ Aside (SWT w0 blk d wr) ∧ Hid ((i = a + 1 ∨ (fn d (i - 1)).tick < (fn d a).tick) ∧ (j = b ∨ (fn d a).tick ≤ (fn d j).tick)))
  case atStart => exact ⟨a + 1, b, by go_num, rfl, by omega, by omega, by omega, by omega, S0, Lib.hid ⟨.inl rfl, .inl rfl⟩⟩
  case round =>
    clear S0 wm
    obtain ⟨i, j, rfl, rfl, hai, hij, hjb, hg1, S1, HO⟩ := hrel
    obtain ⟨wo, rfl⟩ : ∃ W : World, W = wr := ⟨_, rfl⟩
    by_cases hlt : i < j
    · have hltz : (i : Int) < (j : Int) := by omega
      have w1 : IntKind.i64.wrap ((i : Int) + (j : Int)) = (i : Int) + (j : Int) := by rw [IntKind.wrap_i64]; omega
      go_wp2_with fail
      obtain ⟨h, hh⟩ : ∃ h : Nat, ((i : Int) + (j : Int)) / 2 = (h : Int) := ⟨(i + j) / 2, by omega⟩
      have hih : i ≤ h := by omega
      have hhj : h < j := by omega
      rw [hh]
      clear hh w1
      have p1 : (0 : Int) ≤ (h : Int) := by omega
      have p2 : (0 : Int) ≤ (a : Int) := by omega
      have q1 : (h : Int) < (d.size : Int) := by omega
      have q2 : (a : Int) < (d.size : Int) := by omega
      have t1 : (h : Int).toNat = h := by omega
      have t2 : (a : Int).toNat = a := by omega
      have LJ := Lib.hid (fun n os => (swt_cells (S1.out.grown n os) R (by omega) h (by omega)).1)
      have LP := Lib.hid (fun n os => (swt_cells (S1.out.grown n os) R (by omega) a (by omega)).1)
      have hcg := fun n os => HD.out d[h]! d[a]! wo n os
      have HGR := Lib.hid (fun n os => S1.out.grown n os)
      have HLT : Hid ((cmpT d[h]! d[a]! < 0) ↔ (fn d h).tick < (fn d a).tick) := Lib.hid cmpT_lt
      generalize d[h]! = X at LJ hcg HLT
      generalize d[a]! = Y at LP hcg HLT
      generalize cmpT X Y = R0 at hcg HLT
      obtain ⟨x0, x1, x2⟩ := X
      obtain ⟨y0, y1, y2⟩ := Y
      simp only at hcg
      have c0 := fun n os => (LJ.out n os).1
      have c1 := fun n os => (LJ.out n os).2.1
      have c2 := fun n os => (LJ.out n os).2.2
      have e0 := fun n os => (LP.out n os).1
      have e1 := fun n os => (LP.out n os).2.1
      have e2 := fun n os => (LP.out n os).2.2
      simp only at c0 c1 c2 e0 e1 e2
      by_cases hr : R0 < 0
      · have HR := Lib.hid (HLT.out.1 hr)
        go_quiet_grown (first | (go_at_fn 19; exact hcg _ _))
        go_wp2
        go_roundg (j - (h + 1))
        case measure => omega
        case rel => exact ⟨h + 1, j, by go_num, rfl, by omega, by omega, hjb, by omega, HGR.out nq osq, Lib.hid ⟨.inr (by rw [Nat.add_sub_cancel]; exact HR.out), HO.out.2⟩⟩
      · have HR : Hid (¬ (fn d h).tick < (fn d a).tick) := Lib.hid (fun h => hr (HLT.out.2 h))
        go_quiet_grown (first | (go_at_fn 19; exact hcg _ _))
        go_wp2
        go_roundg (h - i)
        case measure => omega
        case rel => exact ⟨i, h, rfl, rfl, hai, by omega, by omega, by omega, HGR.out nq osq, Lib.hid ⟨HO.out.1, .inr (by have := HR.out; omega)⟩⟩
    · have hltz : ¬ (i : Int) < (j : Int) := by omega
      obtain rfl : i = j := by omega
      obtain ⟨P, HP⟩ : ∃ P, Hid (P + 1 = i) := ⟨i - 1, Lib.hid (by omega)⟩
      have wp : IntKind.i64.wrap ((i : Int) - 1) = (P : Int) := by have := HP.out; rw [IntKind.wrap_i64]; omega
      have HF := Lib.hid (sym_left H1.out hai hjb HO.out.1 HO.out.2)
      clear HO
      go_wp2
      go_loopg [13] i (fun g2 vk wr => ∃ (k : Nat) (dk : Array Tm), vk = .int .i64 (k : Int) ∧ a ≤ k ∧ k ≤ P ∧ P - k ≤ g2 ∧ dk.size = d.size ∧ Aside (SWT w0 blk dk wr) ∧ Hid (fn dk = rotF (fn d) a (a + 1) (k + 1)))
      case atStart => exact ⟨a, d, rfl, Nat.le_refl _, by have := HP.out; omega, by have := HP.out; omega, rfl, S1, Lib.hid (rot_zero _ _ _).symm⟩
      case round =>
        clear S1
        obtain ⟨k, dk, rfl, hak, hkP, hg2, hsk, S1, HK⟩ := hrel
        obtain ⟨wo2, rfl⟩ : ∃ W : World, W = wr := ⟨_, rfl⟩
        have hPi := HP.out
        by_cases hk : k < P
        · have hkz : (k : Int) < (P : Int) := by omega
          obtain ⟨K, HK1⟩ : ∃ K, Hid (K = k + 1) := ⟨_, Lib.hid rfl⟩
          have hK := HK1.out
          have wk : IntKind.i64.wrap ((k : Int) + 1) = (K : Int) := by rw [IntKind.wrap_i64]; omega
          have HSF : Hid (fn (swp dk k K) = rotF (fn d) a (a + 1) (K + 1)) := Lib.hid (by rw [fn_swp (by omega) (by omega), HK.out, hK]; exact rot_right hak)
          obtain ⟨⟨c0, c1, c2⟩, f0, f1, f2⟩ := swt_cells S1.out R (by omega) k (by omega)
          obtain ⟨⟨e0, e1, e2⟩, g0, g1, g2⟩ := swt_cells S1.out R (by omega) K (by omega)
          have S3 := Lib.hid (swt_swapped S1.out R k K (by omega) (by omega))
          have hz3 : (swp dk k K).size = d.size := by rw [size_swp]; assumption
          have p1 : (0 : Int) ≤ (k : Int) := by omega
          have p2 : (0 : Int) ≤ (K : Int) := by omega
          have q1 : (k : Int) < (d.size : Int) := by omega
          have q2 : (K : Int) < (d.size : Int) := by omega
          have t1 : (k : Int).toNat = k := by omega
          have t2 : (K : Int).toNat = K := by omega
          generalize dk[k]! = X at c0 c1 c2 S3
          generalize dk[K]! = Y at e0 e1 e2 S3
          obtain ⟨x0, x1, x2⟩ := X
          obtain ⟨y0, y1, y2⟩ := Y
          simp only at c0 c1 c2 e0 e1 e2
          have m0 : ¬ k = K := by omega
          have m0' : ¬ K = k := by omega
          have m1 : ¬ K * 3 = k * 3 + 1 := by omega
          have m2 : ¬ K * 3 = k * 3 + 2 := by omega
          have m3 : ¬ K * 3 + 1 = k * 3 := by omega
          have m4 : ¬ K * 3 + 2 = k * 3 := by omega
          clear S1
          clear hK hPi
          go_wp2_with fail
          go_big_region_o
          all_goals go_wp2
          have hK := HK1.out
          go_roundg (P - K)
          case measure => omega
          case rel => exact ⟨K, _, rfl, by omega, by omega, by omega, hz3, S3.out, HSF⟩
        · have hkz : ¬ (k : Int) < (P : Int) := by omega
          obtain rfl : k = P := by omega
          clear hPi
          go_wp2
          go_end0
          exact ⟨rfl, dk, hsk, S1.out, by rw [HK.out, HP.out]; exact HF.out⟩
set_option maxHeartbeats 4000000 in
set_option maxRecDepth 1000000 in
theorem sym_two (blk cap a m : Nat) (d0 d : Array Tm) (w0 w : World) (R : RowT w0 blk d0) (hs : d0.size = d.size) (S : SWT w0 blk d w) (ham : a + 1 < m) (hb : m + 1 ≤ d.size) (hsz : d.size < 1000000) (h1 : Srt (fn d) a m) :
    Calls Try.prog 24 #[.slice (some ⟨blk, 0, none⟩) d.size cap, .int .i64 (a : Int), .int .i64 (m : Int), .int .i64 ((m : Int) + 1), cmpV] w fun e w' => SymPost w0 blk d a (m + 1) e w' := by
  have S0 : Aside (SWT w0 blk d w) := S
  have HD := Lib.hid due1_grown
  have H1 := Lib.hid h1
  have eg := enters19
  have mixed : Try.prog.follows .mixedOrders = true := by kernel_rfl
  obtain ⟨D, HDm⟩ : ∃ D, Hid (D = m - a) := ⟨_, Lib.hid rfl⟩
  have wm : IntKind.i64.wrap ((m : Int) - (a : Int)) = (D : Int) := by have := HDm.out; rw [IntKind.wrap_i64]; omega
  have wn : ((D : Int) == 1) = false := beq_false_of_ne (by have := HDm.out; omega)
  have wb : IntKind.i64.wrap ((m : Int) + 1 - (m : Int)) = 1 := by rw [IntKind.wrap_i64]; omega
  clear S h1
  go_enter Try.func24, Try.ntmps24
  go_wp2
  go_loopg [14, 15] m (fun g1 vi vj wr => ∃ (i j : Nat), vi = .int .i64 (i : Int) ∧ vj = .int .i64 (j : Int) ∧ a ≤ i ∧ i ≤ j ∧ j ≤ m ∧ j - i ≤ g1 ∧ Aside (SWT w0 blk d wr) ∧ Hid ((i = a ∨ (fn d (i - 1)).tick ≤ (fn d m).tick) ∧ (j = m ∨ (fn d m).tick < (fn d j).tick)))
  case atStart => exact ⟨a, m, rfl, rfl, by omega, by omega, by omega, by omega, S0, Lib.hid ⟨.inl rfl, .inl rfl⟩⟩
  case round =>
    clear S0 wm wn wb
    obtain ⟨i, j, rfl, rfl, hai, hij, hjb, hg1, S1, HO⟩ := hrel
    obtain ⟨wo, rfl⟩ : ∃ W : World, W = wr := ⟨_, rfl⟩
    by_cases hlt : i < j
    · have hltz : (i : Int) < (j : Int) := by omega
      have w1 : IntKind.i64.wrap ((i : Int) + (j : Int)) = (i : Int) + (j : Int) := by rw [IntKind.wrap_i64]; omega
      go_wp2_with fail
      obtain ⟨h, hh⟩ : ∃ h : Nat, ((i : Int) + (j : Int)) / 2 = (h : Int) := ⟨(i + j) / 2, by omega⟩
      have hih : i ≤ h := by omega
      have hhj : h < j := by omega
      rw [hh]
      clear hh w1
      have p1 : (0 : Int) ≤ (m : Int) := by omega
      have p2 : (0 : Int) ≤ (h : Int) := by omega
      have q1 : (m : Int) < (d.size : Int) := by omega
      have q2 : (h : Int) < (d.size : Int) := by omega
      have t1 : (m : Int).toNat = m := by omega
      have t2 : (h : Int).toNat = h := by omega
      have LJ := Lib.hid (fun n os => (swt_cells (S1.out.grown n os) R (by omega) m (by omega)).1)
      have LP := Lib.hid (fun n os => (swt_cells (S1.out.grown n os) R (by omega) h (by omega)).1)
      have hcg := fun n os => HD.out d[m]! d[h]! wo n os
      have HGR := Lib.hid (fun n os => S1.out.grown n os)
      have HLT : Hid ((cmpT d[m]! d[h]! < 0) ↔ (fn d m).tick < (fn d h).tick) := Lib.hid cmpT_lt
      generalize d[m]! = X at LJ hcg HLT
      generalize d[h]! = Y at LP hcg HLT
      generalize cmpT X Y = R0 at hcg HLT
      obtain ⟨x0, x1, x2⟩ := X
      obtain ⟨y0, y1, y2⟩ := Y
      simp only at hcg
      have c0 := fun n os => (LJ.out n os).1
      have c1 := fun n os => (LJ.out n os).2.1
      have c2 := fun n os => (LJ.out n os).2.2
      have e0 := fun n os => (LP.out n os).1
      have e1 := fun n os => (LP.out n os).2.1
      have e2 := fun n os => (LP.out n os).2.2
      simp only at c0 c1 c2 e0 e1 e2
      by_cases hr : R0 < 0
      · have HR := Lib.hid (HLT.out.1 hr)
        go_quiet_grown (first | (go_at_fn 19; exact hcg _ _))
        go_wp2
        go_roundg (h - i)
        case measure => omega
        case rel => exact ⟨i, h, rfl, rfl, hai, by omega, by omega, by omega, HGR.out nq osq, Lib.hid ⟨HO.out.1, .inr HR.out⟩⟩
      · have HR : Hid (¬ (fn d m).tick < (fn d h).tick) := Lib.hid (fun h => hr (HLT.out.2 h))
        go_quiet_grown (first | (go_at_fn 19; exact hcg _ _))
        go_wp2
        go_roundg (j - (h + 1))
        case measure => omega
        case rel => exact ⟨h + 1, j, by go_num, rfl, by omega, by omega, hjb, by omega, HGR.out nq osq, Lib.hid ⟨.inr (by rw [Nat.add_sub_cancel]; have := HR.out; omega), HO.out.2⟩⟩
    · have hltz : ¬ (i : Int) < (j : Int) := by omega
      obtain rfl : i = j := by omega
      have HF := Lib.hid (sym_right H1.out hai hjb HO.out.1 HO.out.2)
      clear HO
      go_wp2
      go_loopg [17] m (fun g2 vk wr => ∃ (k : Nat) (dk : Array Tm), vk = .int .i64 (k : Int) ∧ i ≤ k ∧ k ≤ m ∧ k - i ≤ g2 ∧ dk.size = d.size ∧ Aside (SWT w0 blk dk wr) ∧ Hid (fn dk = rotF (fn d) k m (m + 1)))
      case atStart => exact ⟨m, d, rfl, by omega, Nat.le_refl _, by omega, rfl, S1, Lib.hid (rot_self _ _ _).symm⟩
      case round =>
        clear S1
        obtain ⟨k, dk, rfl, hik, hkm, hg2, hsk, S1, HK⟩ := hrel
        obtain ⟨wo2, rfl⟩ : ∃ W : World, W = wr := ⟨_, rfl⟩
        by_cases hk : i < k
        · have hkz : (i : Int) < (k : Int) := by omega
          obtain ⟨K, HK1⟩ : ∃ K, Hid (K + 1 = k) := ⟨k - 1, Lib.hid (by omega)⟩
          have hK := HK1.out
          have wk : IntKind.i64.wrap ((k : Int) - 1) = (K : Int) := by rw [IntKind.wrap_i64]; omega
          have HSF : Hid (fn (swp dk k K) = rotF (fn d) K m (m + 1)) := Lib.hid (by rw [fn_swp (by omega) (by omega), HK.out, ← hK]; exact rot_left (by omega))
          obtain ⟨⟨c0, c1, c2⟩, f0, f1, f2⟩ := swt_cells S1.out R (by omega) k (by omega)
          obtain ⟨⟨e0, e1, e2⟩, g0, g1, g2⟩ := swt_cells S1.out R (by omega) K (by omega)
          have S3 := Lib.hid (swt_swapped S1.out R k K (by omega) (by omega))
          have hz3 : (swp dk k K).size = d.size := by rw [size_swp]; assumption
          have p1 : (0 : Int) ≤ (k : Int) := by omega
          have p2 : (0 : Int) ≤ (K : Int) := by omega
          have q1 : (k : Int) < (d.size : Int) := by omega
          have q2 : (K : Int) < (d.size : Int) := by omega
          have t1 : (k : Int).toNat = k := by omega
          have t2 : (K : Int).toNat = K := by omega
          generalize dk[k]! = X at c0 c1 c2 S3
          generalize dk[K]! = Y at e0 e1 e2 S3
          obtain ⟨x0, x1, x2⟩ := X
          obtain ⟨y0, y1, y2⟩ := Y
          simp only at c0 c1 c2 e0 e1 e2
          have m0 : ¬ k = K := by omega
          have m0' : ¬ K = k := by omega
          have m1 : ¬ K * 3 = k * 3 + 1 := by omega
          have m2 : ¬ K * 3 = k * 3 + 2 := by omega
          have m3 : ¬ K * 3 + 1 = k * 3 := by omega
          have m4 : ¬ K * 3 + 2 = k * 3 := by omega
          clear S1
          clear hK
          go_wp2_with fail
          go_big_region_o
          all_goals go_wp2
          have hK := HK1.out
          go_roundg (K - i)
          case measure => omega
          case rel => exact ⟨K, _, rfl, by omega, by omega, by omega, hz3, S3.out, HSF⟩
        · have hkz : ¬ (i : Int) < (k : Int) := by omega
          obtain rfl : i = k := by omega
          go_wp2
          go_end0
          exact ⟨rfl, dk, hsk, S1.out, by rw [HK.out]; exact HF.out⟩
end Go.Proofs.Ytlfiijlfokckkaa
