/- Two texts in brackets with a sign between them: what they are read as, and what that is worth. No program in this text. -/
import Derived.Test.YtoiflidlnajbdaaDoorEblex
import Derived.Test.YtoiflidlnajbdaaDoorEbrd
import Derived.Test.YtoiflidlnajbdaaDoorEof
namespace Go.Proofs.YtoiflidlnajbdaaDoor
open Go.RowKit
set_option linter.unusedVariables false

theorem tok_sgn {l : List UInt8} {k j : Nat} {c : UInt8} (hk : k < l.length) (hc : l.getD k 0 = c) (hd : isDg c = false) (hle : isLe c = false) (h2 : k + 2 ≤ l.length → fixedK [c, l.getD (k + 1) 0] = none) (h1 : fixedK [c] = some j) : tokAt l k = some (((j : Int), 0, (k : Int)), k + 1) := by
  unfold tokAt
  rw [hc, if_neg (by rw [hd]; exact Bool.false_ne_true), if_neg (by rw [hle]; exact Bool.false_ne_true)]
  have hn : ¬ (k + 2 ≤ l.length ∧ fixedK (mid l k (k + 2)) ≠ none) := fun hx => by
    have := h2 hx.1
    rw [mid_two l k hx.1, hc] at hx
    exact hx.2 this
  rw [if_neg hn]
  unfold fixTok
  rw [mid_one l k hk, hc, h1]
  rfl
theorem open_two (x : UInt8) : fixedK [40, x] = none := by rw [fixed_sign2 40 x (by decide)]; simp
theorem close_two (x : UInt8) : fixedK [41, x] = none := by rw [fixed_sign2 41 x (by decide)]; simp
theorem plus_two (x : UInt8) : fixedK [43, x] = none := by rw [fixed_sign2 43 x (by decide)]; simp
theorem less_two : fixedK [60, 40] = none := by decide +kernel
/-- the text of both -/
def bothL (s : UInt8) (a b : List UInt8) : List UInt8 := [40] ++ (a ++ 41 :: (s :: 40 :: (b ++ [41])))
theorem both_in1 (s : UInt8) (a b : List UInt8) : In (bothL s a b) a 1 := ⟨[40], _, rfl, rfl⟩
theorem both_in2 (s : UInt8) (a b : List UInt8) : In (bothL s a b) b (a.length + 4) := ⟨[40] ++ (a ++ [41, s, 40]), [], by simp [bothL], by simp⟩
theorem both_len (s : UInt8) (a b : List UInt8) : (bothL s a b).length = a.length + b.length + 5 := by simp [bothL]; omega
theorem both_0 (s : UInt8) (a b : List UInt8) : (bothL s a b).getD 0 0 = 40 := rfl
theorem both_s (s : UInt8) (a b : List UInt8) : (bothL s a b).getD (a.length + 2) 0 = s ∧ (bothL s a b).getD (a.length + 3) 0 = 40 := by
  have h : ∀ j, (bothL s a b).getD (a.length + (j + 2)) 0 = (s :: 40 :: (b ++ [41])).getD j 0 := fun j => by
    unfold bothL
    rw [List.getD, List.getElem?_append_right (by simp; omega), show a.length + (j + 2) - [(40 : UInt8)].length = a.length + (j + 1) by simp, List.getElem?_append_right (by omega), show a.length + (j + 1) - a.length = j + 1 by omega, List.getElem?_cons_succ, List.getD]
  exact ⟨h 0, h 1⟩
/-- the tokens of both -/
def bothT (kd : Int) (la lb : Nat) (ta tb : List Tk) : List Tk := [(17, 0, 0)] ++ (ta.map (sh 1) ++ ([(18, 0, ((la + 1 : Nat) : Int)), (kd, 0, ((la + 2 : Nat) : Int)), (17, 0, ((la + 3 : Nat) : Int))] ++ (tb.map (sh (la + 4)) ++ [(18, 0, ((la + 4 + lb : Nat) : Int))])))
theorem scan_both (s : UInt8) (kd : Nat) (a b : List UInt8) (ta tb : List Tk) (hs : (s = 43 ∧ kd = 3) ∨ (s = 60 ∧ kd = 8)) (ha : scan a 0 [] = (ta, -1)) (hb : scan b 0 [] = (tb, -1)) : scan (bothL s a b) 0 [] = (bothT (kd : Int) a.length b.length ta tb, -1) := by
  have hl := both_len s a b
  have i1 := both_in1 s a b
  have i2 := both_in2 s a b
  obtain ⟨g2, g3⟩ := both_s s a b
  have g1 : (bothL s a b).getD (a.length + 1) 0 = 41 := by rw [Nat.add_comm]; exact i1.close
  have g4 : (bothL s a b).getD (a.length + 4 + b.length) 0 = 41 := i2.close
  have g0 := both_0 s a b
  obtain ⟨us, hu, ku⟩ := scan_in i1 a.length 0 [] ta (by omega) (Nat.zero_le _) ha
  obtain ⟨vs', hv, kv⟩ := scan_in i2 b.length 0 [] tb (by omega) (Nat.zero_le _) hb
  rw [List.nil_append] at hu hv
  subst hu; subst hv
  have hsS : isSp s = false ∧ isDg s = false ∧ isLe s = false ∧ fixedK [s] = some kd ∧ fixedK [s, 40] = none := by
    rcases hs with ⟨rfl, rfl⟩ | ⟨rfl, rfl⟩ <;> decide +kernel
  have t0 := tok_sgn (l := bothL s a b) (k := 0) (j := 17) (by omega) g0 (by decide) (by decide) (fun _ => open_two _) (by decide +kernel)
  have t1 := tok_sgn (l := bothL s a b) (k := a.length + 1) (j := 18) (by omega) g1 (by decide) (by decide) (fun _ => close_two _) (by decide +kernel)
  have t2 := tok_sgn (l := bothL s a b) (k := a.length + 2) (j := kd) (by omega) g2 hsS.2.1 hsS.2.2.1 (fun _ => by rw [g3]; exact hsS.2.2.2.2) hsS.2.2.2.1
  have t3 := tok_sgn (l := bothL s a b) (k := a.length + 3) (j := 17) (by omega) g3 (by decide) (by decide) (fun _ => open_two _) (by decide +kernel)
  have t4 := tok_sgn (l := bothL s a b) (k := a.length + 4 + b.length) (j := 18) (by omega) g4 (by decide) (by decide) (fun _ => close_two _) (by decide +kernel)
  rw [scan_tok _ 0 1 _ [] (by omega) (by rw [g0]; decide) t0, show (1 : Nat) = 1 + 0 from rfl, ku, show 1 + a.length = a.length + 1 by omega,
    scan_tok _ (a.length + 1) _ _ _ (by omega) (by rw [g1]; decide) t1, scan_tok _ (a.length + 1 + 1) _ _ _ (by omega) (by rw [g2]; exact hsS.1) t2, scan_tok _ (a.length + 2 + 1) _ _ _ (by omega) (by rw [g3]; decide) t3,
    show a.length + 3 + 1 = a.length + 4 + 0 from rfl, kv, scan_tok _ (a.length + 4 + b.length) _ _ _ (by omega) (by rw [g4]; decide) t4, scan_end _ _ _ (by omega)]
  unfold bothT
  simp
theorem sh_get (d : Nat) (ts : List Tk) (k : Nat) : (ts.map (sh d))[k]? = ts[k]?.map (sh d) := List.getElem?_map ..
theorem knd_get {ts us : List Tk} {i k d : Nat} (h : ts[i]? = us[k]?.map (sh d)) : knd ts i = knd us k ∧ num ts i = num us k := by
  unfold knd num
  rw [h]
  cases us[k]? <;> exact ⟨rfl, rfl⟩
theorem bothT_len (kd : Int) (la lb : Nat) (ta tb : List Tk) : (bothT kd la lb ta tb).length = ta.length + tb.length + 5 := by simp [bothT]; omega
theorem bothT_1 (kd : Int) (la lb : Nat) (ta tb : List Tk) : TIn (bothT kd la lb ta tb) ta 1 := by
  refine ⟨fun k hk => knd_get (d := 1) ?_, ?_, by rw [bothT_len]; omega⟩
  · unfold bothT
    rw [List.getElem?_append_right (by simp), show 1 + k - [((17 : Int), (0 : Int), (0 : Int))].length = k by simp, List.getElem?_append_left (by simpa using hk), sh_get]
  · refine knd_at (t := (18, 0, ((la + 1 : Nat) : Int))) ?_
    unfold bothT
    rw [List.getElem?_append_right (by simp), show 1 + ta.length - [((17 : Int), (0 : Int), (0 : Int))].length = ta.length by simp, List.getElem?_append_right (by simp)]
    simp
theorem bothT_mid (kd : Int) (la lb : Nat) (ta tb : List Tk) (j : Nat) : (bothT kd la lb ta tb)[ta.length + (j + 1)]? = ([(18, 0, ((la + 1 : Nat) : Int)), (kd, 0, ((la + 2 : Nat) : Int)), (17, 0, ((la + 3 : Nat) : Int))] ++ (tb.map (sh (la + 4)) ++ [(18, 0, ((la + 4 + lb : Nat) : Int))]))[j]? := by
  unfold bothT
  rw [List.getElem?_append_right (by simp; omega), show ta.length + (j + 1) - [((17 : Int), (0 : Int), (0 : Int))].length = ta.length + j by simp, List.getElem?_append_right (by simp)]
  simp
theorem bothT_2 (kd : Int) (la lb : Nat) (ta tb : List Tk) : TIn (bothT kd la lb ta tb) tb (ta.length + 3 + 1) := by
  refine ⟨fun k hk => knd_get (d := la + 4) ?_, ?_, by rw [bothT_len]; omega⟩
  · rw [show ta.length + 3 + 1 + k = ta.length + (3 + k + 1) by omega, bothT_mid, List.getElem?_append_right (by simp)]
    rw [show 3 + k - [((18 : Int), (0 : Int), ((la + 1 : Nat) : Int)), (kd, 0, ((la + 2 : Nat) : Int)), (17, 0, ((la + 3 : Nat) : Int))].length = k by simp, List.getElem?_append_left (by simpa using hk), sh_get]
  · refine knd_at (t := (18, 0, ((la + 4 + lb : Nat) : Int))) ?_
    rw [show ta.length + 3 + 1 + tb.length = ta.length + (3 + tb.length + 1) by omega, bothT_mid, List.getElem?_append_right (by simp)]
    rw [show 3 + tb.length - [((18 : Int), (0 : Int), ((la + 1 : Nat) : Int)), (kd, 0, ((la + 2 : Nat) : Int)), (17, 0, ((la + 3 : Nat) : Int))].length = tb.length by simp, List.getElem?_append_right (by simp)]
    simp
theorem parse_both (s : UInt8) (kd : Nat) (a b : List UInt8) (p q : List Tk) (hs : (s = 43 ∧ kd = 3) ∨ (s = 60 ∧ kd = 8)) (ha : a.length ≤ 90) (hb : b.length ≤ 90) (pa : parseAns a = .toks p) (pb : parseAns b = .toks q) (hl : p.length + q.length ≤ 99) :
    parseAns (bothL s a b) = .toks (p ++ q ++ [((kd : Int), 0, 0)]) := by
  obtain ⟨_, _, _, a1, a2⟩ := parse_toks pa
  obtain ⟨_, _, _, b1, b2⟩ := parse_toks pb
  have hsc := scan_both s kd a b (scan a 0 []).1 (scan b 0 []).1 hs (by rw [← a1]) (by rw [← b1])
  generalize (scan a 0 []).1 = ta at *
  generalize (scan b 0 []).1 = tb at *
  have hlen := bothT_len (kd : Int) a.length b.length ta tb
  have k0 : knd (bothT (kd : Int) a.length b.length ta tb) 0 = 17 := knd_at (t := (17, 0, 0)) rfl
  have ks : knd (bothT (kd : Int) a.length b.length ta tb) (ta.length + 2) = (kd : Int) := knd_at (t := ((kd : Int), 0, ((a.length + 2 : Nat) : Int))) (by rw [show ta.length + 2 = ta.length + (1 + 1) from rfl, bothT_mid]; rfl)
  have k1 : knd (bothT (kd : Int) a.length b.length ta tb) (ta.length + 3) = 17 := knd_at (t := (17, 0, ((a.length + 3 : Nat) : Int))) (by rw [show ta.length + 3 = ta.length + (2 + 1) from rfl, bothT_mid]; rfl)
  have hr : readAll (bothT (kd : Int) a.length b.length ta tb) = some (.ok (bothT (kd : Int) a.length b.length ta tb).length (p ++ q ++ [((kd : Int), 0, 0)])) := by
    rcases hs with ⟨_, rfl⟩ | ⟨_, rfl⟩
    · exact rd_sum hlen k0 (bothT_1 _ _ _ _ _) ks k1 (bothT_2 _ _ _ _ _) a2 b2
    · exact rd_less hlen k0 (bothT_1 _ _ _ _ _) ks k1 (bothT_2 _ _ _ _ _) a2 b2
  unfold parseAns
  rw [if_pos (by rw [both_len]; omega), hsc]
  unfold ansIn
  simp only
  rw [if_pos trivial, hr]
  simp only
  exact ansOf_toks _ _ _ _ rfl (by simp; omega)
/-! ### what it is worth -/
theorem cnt_app : ∀ (a b : List Tk) (n : Int), cnt (a ++ b) n = (cnt a n).bind (cnt b)
  | [], b, n => rfl
  | t :: a, b, n => by
    rw [List.cons_append, cnt, cnt]
    by_cases h : tak t < 0 ∨ n < tak t
    · rw [if_pos h, if_pos h]; rfl
    · rw [if_neg h, if_neg h]; exact cnt_app a b _
theorem cnt_more (c : Int) (hc : 0 ≤ c) : ∀ (q : List Tk) (n r : Int), cnt q n = some r → cnt q (n + c) = some (r + c)
  | [], n, r, h => by rw [cnt] at h ⊢; injection h with h; rw [h]
  | t :: q, n, r, h => by
    rw [cnt] at h ⊢
    by_cases hn : tak t < 0 ∨ n < tak t
    · rw [if_pos hn] at h; cases h
    · rw [if_neg hn] at h
      rw [if_neg (by omega), show n + c - tak t + 1 = n - tak t + 1 + c by omega]
      exact cnt_more c hc q _ r h
theorem vstep_frame (m : Md) {t : Tk} {S : List Vl} (B : List Vl) (h0 : 0 ≤ tak t) (h : tak t ≤ S.length) : vstep m t (S ++ B) = vstep m t S ++ B := by
  rcases tak_cases t with c | c | c | c
  · omega
  · rw [vstep0 _ c, vstep0 _ c]; rfl
  · rcases S with _ | ⟨x, S⟩
    · rw [c] at h; simp at h
    · rw [List.cons_append, vstep1 _ _ c, vstep1 _ _ c]; rfl
  · rcases S with _ | ⟨x, _ | ⟨y, S⟩⟩
    · rw [c] at h; simp at h
    · rw [c] at h; simp at h
    · rw [List.cons_append, List.cons_append, vstep2 _ _ _ c, vstep2 _ _ _ c]; rfl
theorem vrun_frame (m : Md) (B : List Vl) : ∀ (q : List Tk) (S : List Vl) (r : Int), cnt q S.length = some r → vrun m q (S ++ B) = vrun m q S ++ B
  | [], S, r, _ => rfl
  | t :: q, S, r, h => by
    rw [cnt] at h
    by_cases hn : tak t < 0 ∨ (S.length : Int) < tak t
    · rw [if_pos hn] at h; cases h
    · rw [if_neg hn] at h
      rw [vrun, vrun, vstep_frame m B (by omega) (by omega)]
      exact vrun_frame m B q _ r (by rw [vstep_len (m := m) (by omega) (by omega)]; exact h)
theorem ans_both (m : Md) (p q : List Tk) (t : Tk) (x y : Vl) (hp : mayP p = true) (hq : mayP q = true) (ax : ans m p = x) (ay : ans m q = y) (hl : p.length + q.length ≤ 99) (ht : tak t = 2) : ans m (p ++ q ++ [t]) = binV m.ty t x y := by
  obtain ⟨_, _, vp⟩ := ans_may m hp
  obtain ⟨_, _, vq⟩ := ans_may m hq
  unfold vs at vp vq
  rw [List.take_length] at vp vq
  rw [ax] at vp
  rw [ay] at vq
  unfold mayP at hp hq
  simp only [Bool.and_eq_true, decide_eq_true_eq] at hp hq
  have hm : mayP (p ++ q ++ [t]) = true := by
    unfold mayP
    simp only [Bool.and_eq_true, decide_eq_true_eq]
    refine ⟨by simp; omega, ?_⟩
    rw [List.append_assoc, cnt_app, hp.2, Option.bind_some, cnt_app, show (1 : Int) = 0 + 1 from rfl, cnt_more 1 (by omega) q 0 1 hq.2, Option.bind_some, cnt, ht, if_neg (by omega), cnt]
    rfl
  unfold ans vs
  rw [if_pos hm, List.take_length, vrun_append, vrun_append, vp, show [x] = [] ++ [x] from rfl, vrun_frame m [x] q [] 1 hq.2, vq]
  show (vstep m t [y, x]).headD (.bad 0) = _
  rw [vstep2 _ _ _ ht]
  rfl
end Go.Proofs.YtoiflidlnajbdaaDoor
