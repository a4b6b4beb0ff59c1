/- Plain facts on reading tokens that stand among others, ahead of a closing bracket; and two such in brackets with a sign between them. No program in this text. -/
import Derived.Test.YtoiflidlnajbdaaDoorPpure
import Derived.RowKit
namespace Go.Proofs.YtoiflidlnajbdaaDoor
open Go.RowKit
set_option linter.unusedVariables false

/-- the tokens us stand in ts behind d others, but for where they were, and a closing bracket behind them -/
def TIn (ts us : List Tk) (d : Nat) : Prop := (∀ k, k < us.length → knd ts (d + k) = knd us k ∧ num ts (d + k) = num us k) ∧ knd ts (d + us.length) = 18 ∧ d + us.length < ts.length
theorem TIn.knd {ts us : List Tk} {d k : Nat} (h : TIn ts us d) (hk : k < us.length) : knd ts (d + k) = knd us k := (h.1 k hk).1
theorem TIn.num {ts us : List Tk} {d k : Nat} (h : TIn ts us d) (hk : k < us.length) : num ts (d + k) = num us k := (h.1 k hk).2
theorem lvl_18 : lvl 18 = 0 := by decide
theorem TIn.lvl {ts us : List Tk} {d k : Nat} (h : TIn ts us d) (hk : k ≤ us.length) : lvl (Proofs.YtoiflidlnajbdaaDoor.knd ts (d + k)) = lvl (Proofs.YtoiflidlnajbdaaDoor.knd us k) := by
  rcases Nat.lt_or_ge k us.length with h1 | h1
  · rw [h.knd h1]
  · obtain rfl : k = us.length := by omega
    rw [h.2.1, knd_end, lvl_18, lvl_zero]
def Lv (lv : Nat) : Prop := (1 ≤ lv ∧ lv ≤ 6) ∨ (11 ≤ lv ∧ lv ≤ 15)
theorem rd_in {ts us : List Tk} {d : Nat} (h : TIn ts us d) : ∀ (n lv k : Nat) (out : List Tk) (k' : Nat) (o : List Tk), rd us n lv k out = some (.ok k' o) → Lv lv → k ≤ us.length →
    k' ≤ us.length ∧ ∃ e, o = out ++ e ∧ ∀ (m : Nat) (out' : List Tk), n ≤ m → rd ts m lv (d + k) out' = some (.ok (d + k') (out' ++ e))
  | 0, _, _, _, _, _, hr, _, _ => by rw [rd] at hr; cases hr
  | n + 1, lv, k, out, k', o, hr, hlv, hk => by
    have ih := rd_in h n
    have mk : ∀ (P : Nat → List Tk → Option Res) (e : List Tk) (R : Nat), (∀ m out', n ≤ m → P m out' = some (.ok R (out' ++ e))) → ∀ m out', n + 1 ≤ m → ∃ q, m = q + 1 ∧ P q out' = some (.ok R (out' ++ e)) := fun P e R hp m out' hm => ⟨m - 1, by omega, hp (m - 1) out' (by omega)⟩
    by_cases h6 : lv = 6
    · subst h6
      by_cases c1 : knd us k = 4
      · have hlt := knd_lt (ts := us) (k := k) (by omega)
        rw [rd6_neg n out c1] at hr
        rcases thenR_some hr with ⟨j, h1, h2⟩ | ⟨j, o1, h1, h2⟩
        · cases h2
        · injection h2 with h2; injection h2 with h3 h4
          subst h3; subst h4
          obtain ⟨hj, e, rfl, he⟩ := ih 6 (k + 1) out _ _ h1 (.inl (by omega)) (by omega)
          refine ⟨hj, e ++ [(19, 0, 0)], by simp, fun m out' hm => ?_⟩
          obtain ⟨q, rfl⟩ : ∃ q, m = q + 1 := ⟨m - 1, by omega⟩
          rw [rd6_neg q out' (by rw [h.knd hlt]; exact c1), show d + k + 1 = d + (k + 1) by omega, he q out' (by omega)]
          simp [thenR]
      · by_cases c2 : isOpd (knd us k) = true
        · have hlt := opd_lt c2
          rw [rd6_opd n out c2] at hr
          injection hr with hr; injection hr with h3 h4
          subst h3; subst h4
          refine ⟨by omega, [(knd us k, num us k, 0)], rfl, fun m out' hm => ?_⟩
          obtain ⟨q, rfl⟩ : ∃ q, m = q + 1 := ⟨m - 1, by omega⟩
          rw [rd6_opd q out' (by rw [h.knd hlt]; exact c2), h.knd hlt, h.num hlt]
          rfl
        · by_cases c3 : knd us k = 17
          · have hlt := knd_lt (ts := us) (k := k) (by omega)
            rw [rd6_open n out c3] at hr
            rcases thenR_some hr with ⟨j, h1, h2⟩ | ⟨j, o1, h1, h2⟩
            · cases h2
            · by_cases c4 : knd us j = 18
              · have hlt2 := knd_lt (ts := us) (k := j) (by omega)
                rw [if_pos c4] at h2
                injection h2 with h2; injection h2 with h3 h4
                subst h3; subst h4
                obtain ⟨hj, e, rfl, he⟩ := ih 1 (k + 1) out _ _ h1 (.inl (by omega)) (by omega)
                refine ⟨by omega, e, rfl, fun m out' hm => ?_⟩
                obtain ⟨q, rfl⟩ : ∃ q, m = q + 1 := ⟨m - 1, by omega⟩
                rw [rd6_open q out' (by rw [h.knd hlt]; exact c3), show d + k + 1 = d + (k + 1) by omega, he q out' (by omega)]
                simp only [thenR]
                rw [if_pos (by rw [h.knd hlt2]; exact c4)]
                rfl
              · rw [if_neg c4] at h2; injection h2 with h2; cases h2
          · rw [rd6_bad n out c1 (by simpa using c2) c3] at hr; injection hr with hr; cases hr
    · by_cases h3 : lv = 3
      · subst h3
        by_cases c1 : knd us k = 14
        · have hlt := knd_lt (ts := us) (k := k) (by omega)
          rw [rd3_not n out c1] at hr
          rcases thenR_some hr with ⟨j, h1, h2⟩ | ⟨j, o1, h1, h2⟩
          · cases h2
          · injection h2 with h2; injection h2 with h3 h4
            subst h3; subst h4
            obtain ⟨hj, e, rfl, he⟩ := ih 3 (k + 1) out _ _ h1 (.inl (by omega)) (by omega)
            refine ⟨hj, e ++ [(14, 0, 0)], by simp, fun m out' hm => ?_⟩
            obtain ⟨q, rfl⟩ : ∃ q, m = q + 1 := ⟨m - 1, by omega⟩
            rw [rd3_not q out' (by rw [h.knd hlt]; exact c1), show d + k + 1 = d + (k + 1) by omega, he q out' (by omega)]
            simp [thenR]
        · have c1' : knd ts (d + k) ≠ 14 := by
            rcases Nat.lt_or_ge k us.length with h1 | h1
            · rw [h.knd h1]; exact c1
            · obtain rfl : k = us.length := by omega
              rw [h.2.1]; decide
          rw [rd3_cmp n out c1] at hr
          rcases thenR_some hr with ⟨j, h1, h2⟩ | ⟨j, o1, h1, h2⟩
          · cases h2
          · obtain ⟨hj, e, rfl, he⟩ := ih 4 k out _ _ h1 (.inl (by omega)) hk
            by_cases c4 : lvl (knd us j) = 3
            · have hlt := lvl_lt (ts := us) (k := j) (by omega)
              rw [if_pos c4] at h2
              rcases thenR_some h2 with ⟨j2, h5, h6'⟩ | ⟨j2, o2, h5, h6'⟩
              · cases h6'
              · injection h6' with h6'; injection h6' with h7 h8
                subst h7; subst h8
                obtain ⟨hj2, e2, rfl, he2⟩ := ih 4 (j + 1) _ _ _ h5 (.inl (by omega)) (by omega)
                refine ⟨hj2, e ++ e2 ++ [(knd us j, 0, 0)], by simp, fun m out' hm => ?_⟩
                obtain ⟨q, rfl⟩ : ∃ q, m = q + 1 := ⟨m - 1, by omega⟩
                rw [rd3_cmp q out' c1', he q out' (by omega)]
                simp only [thenR]
                rw [if_pos (by rw [h.knd hlt]; exact c4), show d + j + 1 = d + (j + 1) by omega, he2 q _ (by omega)]
                simp [h.knd hlt]
            · rw [if_neg c4] at h2
              injection h2 with h2; injection h2 with h7 h8
              subst h7; subst h8
              refine ⟨hj, e, rfl, fun m out' hm => ?_⟩
              obtain ⟨q, rfl⟩ : ∃ q, m = q + 1 := ⟨m - 1, by omega⟩
              rw [rd3_cmp q out' c1', he q out' (by omega)]
              simp only [thenR]
              rw [if_neg (by rw [h.lvl hj]; exact c4)]
      · by_cases hl : lv < 6
        · have hlv1 : 1 ≤ lv := by unfold Lv at hlv; omega
          rw [rd_row n lv out hl h3] at hr
          rcases thenR_some hr with ⟨j, h1, h2⟩ | ⟨j, o1, h1, h2⟩
          · cases h2
          · obtain ⟨hj, e, rfl, he⟩ := ih (lv + 1) k out _ _ h1 (.inl (by omega)) hk
            obtain ⟨hj2, e2, rfl, he2⟩ := ih (10 + lv) j _ _ _ h2 (.inr (by omega)) hj
            refine ⟨hj2, e ++ e2, by simp, fun m out' hm => ?_⟩
            obtain ⟨q, rfl⟩ : ∃ q, m = q + 1 := ⟨m - 1, by omega⟩
            rw [rd_row q lv out' hl h3, he q out' (by omega)]
            simp only [thenR]
            rw [he2 q _ (by omega)]
            simp
        · obtain ⟨l, rfl⟩ : ∃ l, lv = 10 + l := ⟨lv - 10, by unfold Lv at hlv; omega⟩
          have hl1 : 1 ≤ l ∧ l ≤ 5 := by unfold Lv at hlv; omega
          by_cases hc : Proofs.YtoiflidlnajbdaaDoor.lvl (knd us k) = l
          · have hlt := lvl_lt (ts := us) (k := k) (by omega)
            rw [rd_rest n l out hl1.1 hc] at hr
            rcases thenR_some hr with ⟨j, h1, h2⟩ | ⟨j, o1, h1, h2⟩
            · cases h2
            · obtain ⟨hj, e, rfl, he⟩ := ih (l + 1) (k + 1) out _ _ h1 (.inl (by omega)) (by omega)
              obtain ⟨hj2, e2, rfl, he2⟩ := ih (10 + l) j _ _ _ h2 (.inr (by omega)) hj
              refine ⟨hj2, e ++ [(knd us k, 0, 0)] ++ e2, by simp, fun m out' hm => ?_⟩
              obtain ⟨q, rfl⟩ : ∃ q, m = q + 1 := ⟨m - 1, by omega⟩
              rw [rd_rest q l out' hl1.1 (by rw [h.knd hlt]; exact hc), show d + k + 1 = d + (k + 1) by omega, he q out' (by omega)]
              simp only [thenR]
              rw [he2 q _ (by omega), h.knd hlt]
              simp
          · rw [rd_done n l out hc] at hr
            injection hr with hr; injection hr with h7 h8
            subst h7; subst h8
            refine ⟨hk, [], by simp, fun m out' hm => ?_⟩
            obtain ⟨q, rfl⟩ : ∃ q, m = q + 1 := ⟨m - 1, by omega⟩
            rw [rd_done q l out' (by rw [h.lvl hk]; exact hc)]
            simp
/-- what stands in brackets, read whole -/
theorem rd_bracket {ts us : List Tk} {d : Nat} {o : List Tk} (h : TIn ts us (d + 1)) (ho : knd ts d = 17) (hr : readAll us = some (.ok us.length o)) (m : Nat) (out : List Tk) (hm : 20 * us.length + 21 ≤ m) : rd ts m 6 d out = some (.ok (d + us.length + 2) (out ++ o)) := by
  obtain ⟨_, e, he, hin⟩ := rd_in h _ 1 0 [] _ _ hr (.inl (by omega)) (Nat.zero_le _)
  rw [List.nil_append] at he
  subst he
  obtain ⟨q, rfl⟩ : ∃ q, m = q + 1 := ⟨m - 1, by omega⟩
  rw [rd6_open q out ho, show d + 1 = d + 1 + 0 from rfl, hin q out (by omega)]
  simp only [thenR]
  rw [if_pos h.2.1]
  congr 2
  omega
theorem rd_up5 {ts : List Tk} {k k' : Nat} {o out : List Tk} {m : Nat} (h : rd ts m 6 k out = some (.ok k' o)) (hn : lvl (knd ts k') ≠ 5) (hm : 1 ≤ m) : rd ts (m + 1) 5 k out = some (.ok k' o) := by
  obtain ⟨q, rfl⟩ : ∃ q, m = q + 1 := ⟨m - 1, by omega⟩
  rw [rd_row (q + 1) 5 out (by omega) (by omega), h]
  simp only [thenR]
  exact rd_done q 5 o hn
theorem rd_up4 {ts : List Tk} {k k' : Nat} {o out : List Tk} {m : Nat} (h : rd ts m 5 k out = some (.ok k' o)) (hn : lvl (knd ts k') ≠ 4) (hm : 1 ≤ m) : rd ts (m + 1) 4 k out = some (.ok k' o) := by
  obtain ⟨q, rfl⟩ : ∃ q, m = q + 1 := ⟨m - 1, by omega⟩
  rw [rd_row (q + 1) 4 out (by omega) (by omega), h]
  simp only [thenR]
  exact rd_done q 4 o hn
theorem rd_up3 {ts : List Tk} {k k' : Nat} {o out : List Tk} {m : Nat} (h : rd ts m 4 k out = some (.ok k' o)) (hk : knd ts k ≠ 14) (hn : lvl (knd ts k') ≠ 3) : rd ts (m + 1) 3 k out = some (.ok k' o) := by
  rw [rd3_cmp m out hk, h]
  simp only [thenR]
  rw [if_neg hn]
theorem rd_up2 {ts : List Tk} {k k' : Nat} {o out : List Tk} {m : Nat} (h : rd ts m 3 k out = some (.ok k' o)) (hn : lvl (knd ts k') ≠ 2) (hm : 1 ≤ m) : rd ts (m + 1) 2 k out = some (.ok k' o) := by
  obtain ⟨q, rfl⟩ : ∃ q, m = q + 1 := ⟨m - 1, by omega⟩
  rw [rd_row (q + 1) 2 out (by omega) (by omega), h]
  simp only [thenR]
  exact rd_done q 2 o hn
theorem rd_up1 {ts : List Tk} {k k' : Nat} {o out : List Tk} {m : Nat} (h : rd ts m 2 k out = some (.ok k' o)) (hn : lvl (knd ts k') ≠ 1) (hm : 1 ≤ m) : rd ts (m + 1) 1 k out = some (.ok k' o) := by
  obtain ⟨q, rfl⟩ : ∃ q, m = q + 1 := ⟨m - 1, by omega⟩
  rw [rd_row (q + 1) 1 out (by omega) (by omega), h]
  simp only [thenR]
  exact rd_done q 1 o hn
/-- two in brackets with a sum's sign between them -/
theorem rd_sum {ts us vs : List Tk} {o p : List Tk} (hlen : ts.length = us.length + vs.length + 5) (h0 : knd ts 0 = 17) (hu : TIn ts us 1) (hs : knd ts (us.length + 2) = 3) (h1 : knd ts (us.length + 3) = 17) (hv : TIn ts vs (us.length + 3 + 1)) (ru : readAll us = some (.ok us.length o)) (rv : readAll vs = some (.ok vs.length p)) :
    readAll ts = some (.ok ts.length (o ++ p ++ [(3, 0, 0)])) := by
  have hend : knd ts (us.length + 3 + vs.length + 2) = 0 := by rw [show us.length + 3 + vs.length + 2 = ts.length by omega]; exact knd_end ts
  unfold readAll
  obtain ⟨q, hq⟩ : ∃ q, 20 * ts.length + 20 = q + 1 + 1 + 1 + 1 + 1 := ⟨20 * ts.length + 15, by omega⟩
  rw [hq]
  have a1 : rd ts q 6 0 [] = some (.ok (us.length + 2) o) := by
    have := rd_bracket (d := 0) (by simpa using hu) h0 ru q [] (by omega)
    simpa [Nat.add_comm] using this
  have a2 : rd ts (q + 1) 5 0 [] = some (.ok (us.length + 2) o) := rd_up5 a1 (by rw [hs]; decide) (by omega)
  have b1 : rd ts q 6 (us.length + 3) o = some (.ok (us.length + 3 + vs.length + 2) (o ++ p)) := rd_bracket hv h1 rv q o (by omega)
  have b1' : rd ts (q - 1) 6 (us.length + 3) o = some (.ok (us.length + 3 + vs.length + 2) (o ++ p)) := rd_bracket hv h1 rv (q - 1) o (by omega)
  have b2 : rd ts q 5 (us.length + 2 + 1) o = some (.ok (us.length + 3 + vs.length + 2) (o ++ p)) := by
    have := rd_up5 b1' (by rw [hend]; decide) (by omega)
    rwa [show q - 1 + 1 = q by omega] at this
  have a3 : rd ts (q + 1 + 1) 4 0 [] = some (.ok (us.length + 3 + vs.length + 2) (o ++ p ++ [(3, 0, 0)])) := by
    rw [rd_row (q + 1) 4 [] (by omega) (by omega), a2]
    simp only [thenR]
    rw [rd_rest q 4 o (by omega) (by rw [hs]; decide), b2]
    simp only [thenR]
    obtain ⟨r, rfl⟩ : ∃ r, q = r + 1 := ⟨q - 1, by omega⟩
    rw [rd_done r 4 _ (by rw [hend]; decide), hs]
  have a4 := rd_up3 a3 (by rw [h0]; decide) (by rw [hend]; decide)
  have a5 := rd_up2 a4 (by rw [hend]; decide) (by omega)
  have a6 := rd_up1 a5 (by rw [hend]; decide) (by omega)
  rw [show us.length + 3 + vs.length + 2 = ts.length by omega] at a6
  exact a6
/-- two in brackets with 'less' between them -/
theorem rd_less {ts us vs : List Tk} {o p : List Tk} (hlen : ts.length = us.length + vs.length + 5) (h0 : knd ts 0 = 17) (hu : TIn ts us 1) (hs : knd ts (us.length + 2) = 8) (h1 : knd ts (us.length + 3) = 17) (hv : TIn ts vs (us.length + 3 + 1)) (ru : readAll us = some (.ok us.length o)) (rv : readAll vs = some (.ok vs.length p)) :
    readAll ts = some (.ok ts.length (o ++ p ++ [(8, 0, 0)])) := by
  have hend : knd ts (us.length + 3 + vs.length + 2) = 0 := by rw [show us.length + 3 + vs.length + 2 = ts.length by omega]; exact knd_end ts
  unfold readAll
  obtain ⟨q, hq⟩ : ∃ q, 20 * ts.length + 20 = q + 1 + 1 + 1 + 1 + 1 := ⟨20 * ts.length + 15, by omega⟩
  rw [hq]
  have a1 : rd ts q 6 0 [] = some (.ok (us.length + 2) o) := by
    have := rd_bracket (d := 0) (by simpa using hu) h0 ru q [] (by omega)
    simpa [Nat.add_comm] using this
  have a2 : rd ts (q + 1) 5 0 [] = some (.ok (us.length + 2) o) := rd_up5 a1 (by rw [hs]; decide) (by omega)
  have a3 : rd ts (q + 1 + 1) 4 0 [] = some (.ok (us.length + 2) o) := rd_up4 a2 (by rw [hs]; decide) (by omega)
  have b1 : rd ts q 6 (us.length + 2 + 1) o = some (.ok (us.length + 3 + vs.length + 2) (o ++ p)) := rd_bracket hv h1 rv q o (by omega)
  have b2 := rd_up5 b1 (by rw [hend]; decide) (by omega)
  have b3 := rd_up4 b2 (by rw [hend]; decide) (by omega)
  have a4 : rd ts (q + 1 + 1 + 1) 3 0 [] = some (.ok (us.length + 3 + vs.length + 2) (o ++ p ++ [(8, 0, 0)])) := by
    rw [rd3_cmp (q + 1 + 1) [] (by rw [h0]; decide), a3]
    simp only [thenR]
    rw [if_pos (by rw [hs]; decide), b3]
    simp only [hs]
  have a5 := rd_up2 a4 (by rw [hend]; decide) (by omega)
  have a6 := rd_up1 a5 (by rw [hend]; decide) (by omega)
  rw [show us.length + 3 + vs.length + 2 = ts.length by omega] at a6
  exact a6
end Go.Proofs.YtoiflidlnajbdaaDoor
