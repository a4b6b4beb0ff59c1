/- The contract of the document's Text (spinetref03.Text): the text of what ends at a place, and where that begins. -/
import Derived.Test.YtdeopkjpglkdhaaGreatDoorTjoin
import Derived.Test.YtdeopkjpglkdhaaGreatDoorZrefx
namespace Go.Proofs.YtdeopkjpglkdhaaGreatDoor
open Go.ChangeShapes Go.WideShapes Go.ChangeAt Go.RowKit
set_option linter.unusedVariables false

/-- what the document's Text tells of the element x, at a place -/
def RxPost (x : El) (n : Nat) (w : World) (e : Ending) (w' : World) : Prop :=
  Below w.heap.size w w' ∧ ∃ (s : ByteArray) (f : Int), e = .returned (.tuple #[.string s, .int .i64 f, .bool x.ok]) ∧ (x.ok = true → s = bytes x.s ∧ f = x.f) ∧ s.size ≤ 300 * n
def RText (ts : List Tk) (n : Nat) : Prop := ∀ (A : Option Addr) (cap : Nat) (at_ : Nat) (x : El) (S : List El) (z : Int) (w : World), at_ < n → at_ < ts.length → ts.length ≤ 100 → Valid ts (at_ + 1) → ToksAt w (.slice A ts.length cap) ts → (∀ t ∈ ts, t.2.1 ≤ 9223372036854775807) → stk ts (at_ + 1) = x :: S → z = (at_ : Int) →
    Calls Tryz.prog 13 #[.slice A ts.length cap, .int .i64 z] w (RxPost x (at_ + 1) w)
theorem toks_mid {w : World} {b o cap : Nat} {ts : List Tk} {k : Nat} {t : Tk} (ht : ts[k]? = some t) (h : ToksAt w (.slice (some ⟨b, o, none⟩) ts.length cap) ts) : ToksAt w (.slice (some ⟨b, o + k * 3, none⟩) 1 (cap - k)) [t] := by
  obtain ⟨A, cap', hv, hc, hi⟩ := h
  injection hv with h1 h2 h3
  subst h3
  have hk : k < ts.length := (List.getElem?_eq_some_iff.1 ht).1
  refine ⟨_, cap - k, rfl, by simp; omega, fun i u hu => ?_⟩
  cases i with
  | zero =>
    simp at hu
    subst hu
    obtain ⟨b', o', hA, hlt, c0, c1, c2⟩ := hi k t ht
    rw [← h1] at hA
    injection hA with hA
    injection hA with hA1 hA2
    subst hA1
    subst hA2
    exact ⟨b, o + k * 3, rfl, hlt, by simpa using c0, by simpa using c1, by simpa using c2⟩
  | succ i => simp at hu
set_option maxHeartbeats 4000000 in
set_option maxRecDepth 100000 in
theorem rtext_leaf (ts : List Tk) (b o cap k : Nat) (t : Tk) (z : Int) (w : World) (hk : k < ts.length) (hl : ts.length ≤ 100) (ht : ts[k]? = some t) (hv : ToksAt w (.slice (some ⟨b, o, none⟩) ts.length cap) ts) (hn : t.2.1 ≤ 9223372036854775807) (hc : tak t = 0) (hz : z = (k : Int)) :
    Calls Tryz.prog 13 #[.slice (some ⟨b, o, none⟩) ts.length cap, .int .i64 z] w (RxPost ⟨textB t, k, true⟩ (k + 1) w) := by
  subst hz
  obtain ⟨A, cap', hv1, hcc, hi⟩ := id hv
  injection hv1 with h1 h2 h3
  subst h3
  obtain ⟨b', o', hA, hlt, c0, c1, c2⟩ := hi k t ht
  rw [← h1] at hA
  injection hA with hA
  injection hA with hA1 hA2
  subst hA1
  subst hA2
  have HV := Lib.hid (toks_mid ht hv)
  have HC := Lib.hid hc
  have HN := Lib.hid hn
  have HB1 := Lib.hid ((Below.refl w.heap.size w).alloc (Nat.le_refl _) (.cells #[.int .i64 t.1, .int .i64 t.2.1, .int .i64 t.2.2] 40))
  have HM := Lib.hid (show mayB t = true by
    rcases (tak_may (t := t) (by omega)).2.2 with ⟨h, h'⟩ | h
    · obtain ⟨kk, nn, aa⟩ := t
      simp only at h h'
      subst h; subst h'
      have ha := (tak_may (t := (19, 0, aa)) (by omega)).1
      simp only at ha
      subst ha
      exact absurd hc (by decide)
    · exact h)
  have hk1 : (k : Int) + 1 ≤ (cap : Int) := by omega
  have hk2 : (k : Int) < (ts.length : Int) := by omega
  have e1 : ¬ cap = k := by omega
  have e2 : (cap == k) = false := by simp; omega
  have e3 : ¬ (cap : Int) = (k : Int) := by omega
  have e6 : (k : Int) < (cap : Int) := by omega
  have e7 : k < cap := by omega
  have e9 : ¬ k = cap := by omega
  clear hc hn hi h1 h2 hv ht
  go_enter Tryz.func13, Tryz.ntmps13
  go_wp2_with fail
  refine (rtakes_any t _).mono ?_
  rintro e w1 ⟨rfl, hb1⟩
  rw [HC.out]
  have HX1 := Lib.hid (HB1.out.trans (hb1.mono (by simp)))
  clear hb1
  go_wp2_with fail
  refine (rtext_any _ [t] w1 (HV.out.below HX1.out) (fun u hu => by obtain rfl := List.mem_singleton.1 hu; exact HN.out) (by simp)).mono ?_
  rintro e w2 ⟨hb2, ⟨_, rfl⟩ | ⟨h1, _⟩⟩
  · rw [joinB_one]
    have HX2 := Lib.hid (HX1.out.trans (hb2.mono HX1.out.size))
    have HSZ := Lib.hid (show (bytes (textB t)).size ≤ 300 * (k + 1) by rw [bytes_size]; have := textB_len HM.out HN.out; omega)
    clear hb2
    go_wp2_with fail
    refine bodyPost_ret (v := .tuple #[.string (bytes (textB t)), .int .i64 (k : Int), .bool true]) (by simp [results, Tryz.results13, go_sem]) rfl ?_
    exact ⟨HX2.out, _, _, rfl, fun _ => ⟨rfl, rfl⟩, HSZ.out⟩
  · exact absurd (fun u hu => by obtain rfl := List.mem_singleton.1 hu; exact HM.out) h1
theorem may_leaf {t : Tk} (hc : tak t = 0) : mayB t = true := by
  rcases (tak_may (t := t) (by omega)).2.2 with ⟨h, h'⟩ | h
  · obtain ⟨kk, nn, aa⟩ := t
    simp only at h h'
    subst h; subst h'
    have ha := (tak_may (t := (19, 0, aa)) (by omega)).1
    simp only at ha
    subst ha
    exact absurd hc (by decide)
  · exact h
theorem stk_short (ts : List Tk) (hn : ∀ t ∈ ts, t.2.1 ≤ 9223372036854775807) : ∀ i, i ≤ ts.length → Valid ts i → ∀ x ∈ stk ts i, x.ok = true → x.s.length ≤ 200
  | 0, _, _, x, hx, _ => by cases hx
  | i + 1, hi, hv, x, hx, hok => by
    have ih := stk_short ts hn i (by omega) (hv.mono (by omega))
    have hg : ts.getD i (0, 0, 0) = ts[i] := by simp [List.getD, List.getElem?_eq_getElem (show i < ts.length by omega)]
    have h0 := (hv i (by omega)).1
    have h1 := (hv i (by omega)).2
    rw [stk_succ] at hx
    have hnt : (ts.getD i (0, 0, 0)).2.1 ≤ 9223372036854775807 := by rw [hg]; exact hn _ (List.getElem_mem _)
    generalize ts.getD i (0, 0, 0) = t at *
    rcases tak_cases t with c | c | c | c
    · omega
    · rw [step0 _ c] at hx
      rcases List.mem_cons.1 hx with rfl | hx
      · have := textB_len (may_leaf c) hnt; simp only; omega
      · exact ih x hx hok
    · rcases hs : stk ts i with _ | ⟨y, S⟩
      · rw [hs, c] at h1; simp at h1
      · rw [hs] at ih
        rw [hs, step1 _ _ c] at hx
        rcases List.mem_cons.1 hx with rfl | hx
        · simp only [Bool.and_eq_true, decide_eq_true_eq] at hok; exact hok.2
        · exact ih x (by simp [hx]) hok
    · rcases hs : stk ts i with _ | ⟨b, _ | ⟨a, S⟩⟩
      · rw [hs, c] at h1; simp at h1
      · rw [hs, c] at h1; simp at h1
      · rw [hs] at ih
        rw [hs, step2 _ _ _ c] at hx
        rcases List.mem_cons.1 hx with rfl | hx
        · simp only [Bool.and_eq_true, decide_eq_true_eq] at hok; exact hok.2.2
        · exact ih x (by simp [hx]) hok
theorem tak_one {t : Tk} (h : tak t = 1) : t = (14, 0, 0) ∨ t = (19, 0, 0) := by
  obtain ⟨k, n, a⟩ := t
  have ha := (tak_may (t := (k, n, a)) (by omega)).1
  simp only at ha
  subst ha
  by_cases h1 : k = 1
  · subst h1; rw [tak_num] at h; split at h <;> omega
  · by_cases h2 : k = 2
    · subst h2; rw [tak_var] at h; split at h <;> omega
    · rw [tak_fix k n h1 h2] at h
      by_cases hn : n = 0
      · subst hn
        rw [if_pos rfl] at h
        unfold fixTak at h
        split at h
        · omega
        · split at h
          · rename_i hk; rcases hk with rfl | rfl
            · exact .inl rfl
            · exact .inr rfl
          · split at h <;> omega
      · rw [if_neg hn] at h; omega
theorem tak_two {t : Tk} (h : tak t = 2) : ∃ k, t = (k, 0, 0) ∧ 3 ≤ k ∧ k ≤ 13 := by
  obtain ⟨k, n, a⟩ := t
  have ha := (tak_may (t := (k, n, a)) (by omega)).1
  simp only at ha
  subst ha
  by_cases h1 : k = 1
  · subst h1; rw [tak_num] at h; split at h <;> omega
  · by_cases h2 : k = 2
    · subst h2; rw [tak_var] at h; split at h <;> omega
    · rw [tak_fix k n h1 h2] at h
      by_cases hn : n = 0
      · subst hn
        rw [if_pos rfl] at h
        refine ⟨k, rfl, ?_⟩
        unfold fixTak at h
        split at h
        · omega
        · split at h
          · omega
          · split at h
            · rename_i hl
              unfold lvl at hl
              by_cases d1 : k = 13
              · omega
              · rw [if_neg d1] at hl
                by_cases d2 : k = 12
                · omega
                · rw [if_neg d2] at hl
                  by_cases d3 : 8 ≤ k ∧ k ≤ 11
                  · omega
                  · rw [if_neg d3] at hl
                    by_cases d4 : k = 3 ∨ k = 4
                    · omega
                    · rw [if_neg d4] at hl
                      by_cases d5 : 5 ≤ k ∧ k ≤ 7
                      · omega
                      · rw [if_neg d5] at hl; exact absurd rfl hl
            · omega
      · rw [if_neg hn] at h; omega
theorem un_neg (X : ByteArray) : ⟨#[40, 45]⟩ ++ X ++ ⟨#[41]⟩ = bytes (unS (19, 0, 0) X.data.toList) ∧ (unS (19, 0, 0) X.data.toList).length = 2 + X.size + 1 := by
  have hx : X.data.toList.length = X.size := (Lib.size_eq X).symm
  refine ⟨?_, ?_⟩
  · unfold unS; rw [bytes_append, bytes_append, bytes_data]; rfl
  · unfold unS; simp only [List.length_append, List.length_cons, List.length_nil, hx, sgn_neg]; have : (textB (4, 0, 0)).length = 1 := by decide
    omega
theorem un_not (X : ByteArray) : ⟨#[40, 110, 111, 116, 32]⟩ ++ X ++ ⟨#[41]⟩ = bytes (unS (14, 0, 0) X.data.toList) ∧ (unS (14, 0, 0) X.data.toList).length = 5 + X.size + 1 := by
  have hx : X.data.toList.length = X.size := (Lib.size_eq X).symm
  refine ⟨?_, ?_⟩
  · unfold unS; rw [bytes_append, bytes_append, bytes_data]; rfl
  · unfold unS; have : (sgn (14, 0, 0)).length = 4 := by decide
    simp only [List.length_append, List.length_cons, List.length_nil, hx, this]
/-- where the cells of a token lie -/
theorem tok_at {w : World} {A : Option Addr} {cap k : Nat} {ts : List Tk} {t : Tk} (h : ToksAt w (.slice A ts.length cap) ts) (ht : ts[k]? = some t) : ∃ b o : Nat, A = some ⟨b, o, none⟩ ∧ b < w.heap.size ∧ w.cell? ⟨b, o + k * 3, none⟩ = some (.int .i64 t.1) ∧ w.cell? ⟨b, o + k * 3 + 1, none⟩ = some (.int .i64 t.2.1) ∧ w.cell? ⟨b, o + k * 3 + 2, none⟩ = some (.int .i64 t.2.2) ∧ ts.length ≤ cap := by
  obtain ⟨A', cap', hv, hc, hi⟩ := h
  injection hv with h1 h2 h3
  subst h1
  subst h3
  obtain ⟨b, o, hA, hlt, c0, c1, c2⟩ := hi k t ht
  exact ⟨b, o, hA, hlt, c0, c1, c2, hc⟩
end Go.Proofs.YtdeopkjpglkdhaaGreatDoor
