/- Contracts of lex.numberAt, wordAt, signAt and tokenAt: the token that begins at a byte of a text. -/
import Derived.Test.YtmiampdeniihmaaDoorFix
namespace Go.Proofs.YtmiampdeniihmaaDoor
open Go.ChangeShapes Go.WideShapes Go.ChangeAt Go.RowKit
set_option linter.unusedVariables false

theorem bcell {W w1 : World} (hb : Below W.heap.size W w1) : (∀ b o, b < W.heap.size → w1.cell? ⟨b, o, none⟩ = W.cell? ⟨b, o, none⟩) ∧ (∀ b o, b < W.heap.size → w1.frozen? ⟨b, o, none⟩ = W.frozen? ⟨b, o, none⟩) :=
  ⟨fun b o h => hb.cell (p := ⟨b, o, none⟩) h, fun b o h => hb.frozen (p := ⟨b, o, none⟩) h⟩
theorem neq_nil_nil (w : World) : (binOp .neq 25 .nilIface .nilIface).run Tryd.prog w = .ok (.bool false) w := by kernel_rfl
theorem neq_num_nil (p : Value) (w : World) : (binOp .neq 25 (.iface 117 p) .nilIface).run Tryd.prog w = .ok (.bool true) w := by kernel_rfl
theorem extract_size (s : ByteArray) (a b : Nat) (hb : b ≤ s.size) : (s.extract a b).size = b - a := by
  rw [Lib.size_eq, Lib.extract_data, List.length_take, List.length_drop, ← Lib.size_eq]; omega

/-- strconv.ParseInt at a piece of digits alone -/
theorem parse_ok (s : ByteArray) (a b : Nat) (w : World) (hb : b ≤ s.size) (hs : s.size ≤ 1000000) (hn : mid s.data.toList a b ≠ []) (hd : ∀ c ∈ mid s.data.toList a b, isDg c = true) (hv : val (mid s.data.toList a b) ≤ 9223372036854775807) :
    Calls Tryd.prog 40 #[.string (s.extract a b), .int .i64 10, .int .i64 64] w fun e w' => e = .returned (.tuple #[.int .i64 (val (mid s.data.toList a b)), .nilIface]) ∧ Below w.heap.size w w' := by
  have h : Lib.parseIntB 64 (s.extract a b).data.toList = .ok (val (mid s.data.toList a b) : Int) := by
    rw [Lib.extract_data]; exact (parseInt_digits _ hn hd).trans (if_pos hv)
  refine (Tryd.strconv_ParseInt_10_at64_ok (s.extract a b) (by rw [extract_size s a b hb]; omega) _ h w).mono ?_
  rintro e w' ⟨rfl, hw⟩
  refine ⟨rfl, ?_⟩
  rcases hw with rfl | ⟨t, rfl⟩
  · exact Below.refl _ _
  · exact Lib.bytesWorld_below _ _ _
theorem parse_big (s : ByteArray) (a b : Nat) (w : World) (hL : Laid w) (hb : b ≤ s.size) (hs : s.size ≤ 1000000) (hn : mid s.data.toList a b ≠ []) (hd : ∀ c ∈ mid s.data.toList a b, isDg c = true) (hv : ¬ val (mid s.data.toList a b) ≤ 9223372036854775807) :
    Calls Tryd.prog 40 #[.string (s.extract a b), .int .i64 10, .int .i64 64] w fun e w' => ∃ n p, e = .returned (.tuple #[.int .i64 n, .iface 117 p]) ∧ Below w.heap.size w w' := by
  have h : Lib.parseIntB 64 (s.extract a b).data.toList = .range := by
    rw [Lib.extract_data]; exact (parseInt_digits _ hn hd).trans (if_neg hv)
  obtain ⟨tp, p, hr⟩ := hL.2.2.2.1
  refine (Tryd.strconv_ParseInt_10_at64_range_var (s.extract a b) (by rw [extract_size s a b hb]; omega) h tp p w hr).mono ?_
  rintro e w' ⟨N, rfl, _, _, hb⟩
  exact ⟨_, _, rfl, hb⟩

theorem mid_ne (l : List UInt8) (p : UInt8 → Bool) (k : Nat) (h : k < l.length) (hp : p (l.getD k 0) = true) : mid l k (upto p l k) ≠ [] := by
  intro h0
  have h1 := mid_length l k (upto p l k) (upto_le p l k (by omega))
  have h2 := le_upto p l (k + 1)
  rw [h0, upto_yes p l k h hp] at h1
  simp at h1; omega

def Blk (w : World) (g : Nat) (t : TypeId) (cs : Array Value) : Prop := w.heap[g]? = some (.cells cs t (0, 0))
theorem Blk.cell {w : World} {g : Nat} {t : TypeId} {cs : Array Value} (h : Blk w g t cs) (i : Nat) : w.cell? ⟨g, i, none⟩ = cs[i]? := cell_of_row w g i cs t (0, 0) h
theorem Blk.frozen {w : World} {g : Nat} {t : TypeId} {cs : Array Value} (h : Blk w g t cs) (i : Nat) : w.frozen? ⟨g, i, none⟩ = false := by
  unfold Blk at h
  simp [World.frozen?, h]
theorem Blk.new (w : World) (t : TypeId) (cs : Array Value) : Blk (w.alloc (.cells cs t)) w.heap.size t cs := heap_alloc_new w _
theorem Blk.below {w w' : World} {g : Nat} {t : TypeId} {cs : Array Value} {B : Nat} (h : Blk w g t cs) (hb : Below B w w') (hg : g < B) : Blk w' g t cs := (hb.block g hg).trans h
theorem Blk.drewN {w : World} {g : Nat} {t : TypeId} {cs : Array Value} (h : Blk w g t cs) (n : Nat) : Blk (w.drewN n) g t cs := h
theorem Blk.set_ {w : World} {g : Nat} {t : TypeId} {cs : Array Value} (h : Blk w g t cs) (i : Nat) (u : Value) : Blk (w.setCell ⟨g, i, none⟩ u) g t (cs.setIfInBounds i u) := by
  unfold Blk at h ⊢
  simp [World.setCell, Array.getElem?_modify, h]
/-- three stores into a block of three cells -/
theorem Blk.set3 {w : World} {g : Nat} {t : TypeId} {x y z : Value} (h : Blk w g t #[x, y, z]) (a b c : Value) :
    Blk (((w.setCell ⟨g, 0, none⟩ a).setCell ⟨g, 1, none⟩ b).setCell ⟨g, 2, none⟩ c) g t #[a, b, c] := ((h.set_ 0 a).set_ 1 b).set_ 2 c
theorem Blk.lt {w : World} {g : Nat} {t : TypeId} {cs : Array Value} (h : Blk w g t cs) : g < w.heap.size := by
  rcases Nat.lt_or_ge g w.heap.size with hlt | hge
  · exact hlt
  · unfold Blk at h; rw [Array.getElem?_eq_none hge] at h; cases h
theorem Blk.alloc {w : World} {g : Nat} {t : TypeId} {cs : Array Value} (h : Blk w g t cs) (o : Obj) : Blk (w.alloc o) g t cs := (Below.heap_alloc w o g h.lt).trans h
theorem Blk.facts3 {w : World} {g : Nat} {t : TypeId} {x y z : Value} (h : Blk w g t #[x, y, z]) :
    (w.cell? ⟨g, 0, none⟩ = some x ∧ w.cell? ⟨g, 1, none⟩ = some y ∧ w.cell? ⟨g, 2, none⟩ = some z) ∧ (w.frozen? ⟨g, 0, none⟩ = false ∧ w.frozen? ⟨g, 1, none⟩ = false ∧ w.frozen? ⟨g, 2, none⟩ = false) :=
  ⟨⟨h.cell 0, h.cell 1, h.cell 2⟩, h.frozen 0, h.frozen 1, h.frozen 2⟩
/-- what a function returns whose first result lies in a block of three cells -/
theorem results_tok {fn : Func} {r t u : Tmp} (hr : fn.results = #[.cell r 40, .tmp t, .tmp u]) (tmps : Array Value) (w : World) (g : Nat) (a b c : Value)
    (hp : tmps.getD r undef = .pointer (some ⟨g, 0, none⟩)) (hB : Blk w g 40 #[a, b, c]) :
    (results fn tmps).run Tryd.prog w = .ok (.tuple #[.agg #[a, b, c], tmps.getD t undef, tmps.getD u undef]) w := by
  have c0 := hB.cell 0
  have c1 := hB.cell 1
  have c2 := hB.cell 2
  simp at c0 c1 c2 hp
  simp [results, hr, hp, go_sem, c0, c1, c2]

set_option maxHeartbeats 1000000 in
theorem numberAt_any (s : ByteArray) (k : Nat) (w : World) (hL : Laid w) (hk : k < s.size) (hs : s.size ≤ 1000000) (hd : isDg (s.data.toList.getD k 0) = true) :
    Calls Tryd.prog 26 #[.string s, .int .i64 k] w fun e w' => e = .returned (tokVal (tokAt s.data.toList k)) ∧ Below w.heap.size w w' := by
  have hl : k < s.data.toList.length := by rw [← Lib.size_eq]; exact hk
  have hT : Hid (tokAt s.data.toList k = if val (mid s.data.toList k (upto isDg s.data.toList k)) ≤ 9223372036854775807 then some ((1, (val (mid s.data.toList k (upto isDg s.data.toList k)) : Int), (k : Int)), upto isDg s.data.toList k) else none) := by
    refine Lib.hid ?_; unfold tokAt; rw [if_pos hd]
  have hu : upto isDg s.data.toList k ≤ s.size := by have := upto_le isDg s.data.toList k (by omega); rw [← Lib.size_eq] at this; exact this
  have hu2 := le_upto isDg s.data.toList k
  have hne := mid_ne s.data.toList isDg k hl hd
  have hdg := Lib.hid (digits_of_mid s.data.toList k)
  clear hd
  have n1 := neq_nil_nil
  have n2 := neq_num_nil
  generalize hE : upto isDg s.data.toList k = E at *
  have HE := Lib.hid hE
  clear hE
  by_cases hv : val (mid s.data.toList k E) ≤ 9223372036854775807
  · go_enter Tryd.func26, Tryd.ntmps26
    go_wp2_with fail
    refine (endOf_digit s k _ (by omega) hs).mono ?_
    rintro e w' ⟨rfl, rfl⟩
    rw [HE.out]
    go_wp2_with fail
    refine (parse_ok s k E _ hu hs hne hdg.out hv).mono ?_
    rintro e w1 ⟨rfl, hb⟩
    obtain ⟨hc, hf⟩ := bcell hb
    have hB := (Blk.new w 40 #[.int .i64 0, .int .i64 0, .int .i64 0]).below hb (by simp)
    go_wp2
    refine bodyPost_ret (v := tokVal (tokAt s.data.toList k)) ?_ rfl ⟨rfl, ?_⟩
    · rw [hT.out, if_pos hv]; exact (results_tok Tryd.results26 _ _ w.heap.size _ _ _ (by rfl) (hB.set3 _ _ _)).trans (by rfl)
    · exact ((((Below.refl _ _).alloc (Nat.le_refl _) _).trans (hb.mono (by simp))).setCell (by simp) _ |>.setCell (by simp) _).setCell (by simp) _
  · have hL1 := hL.after (((Below.refl w.heap.size w).alloc (Nat.le_refl _) (.cells #[.int .i64 0, .int .i64 0, .int .i64 0] 40)))
    have HL1 := Lib.hid hL1
    clear hL1
    go_enter Tryd.func26, Tryd.ntmps26
    go_wp2_with fail
    refine (endOf_digit s k _ (by omega) hs).mono ?_
    rintro e w' ⟨rfl, rfl⟩
    rw [HE.out]
    go_wp2_with fail
    refine (parse_big s k E _ HL1.out hu hs hne hdg.out hv).mono ?_
    rintro e w1 ⟨nn, pp, rfl, hb⟩
    obtain ⟨hc, hf⟩ := bcell hb
    have hB := (Blk.new w 40 #[.int .i64 0, .int .i64 0, .int .i64 0]).below hb (by simp)
    go_wp2
    refine bodyPost_ret (v := tokVal (tokAt s.data.toList k)) ?_ rfl ⟨rfl, ?_⟩
    · rw [hT.out, if_neg hv]; exact (results_tok Tryd.results26 _ _ w.heap.size _ _ _ (by rfl) (hB.set3 _ _ _)).trans (by rfl)
    · exact ((((Below.refl _ _).alloc (Nat.le_refl _) _).trans (hb.mono (by simp))).setCell (by simp) _ |>.setCell (by simp) _).setCell (by simp) _

set_option maxHeartbeats 1000000 in
theorem wordAt_one (s : ByteArray) (k : Nat) (w : World) (hk : k < s.size) (hs : s.size ≤ 1000000) (hd : isDg (s.data.toList.getD k 0) = false) (hl : isLe (s.data.toList.getD k 0) = true) (h1 : upto isLe s.data.toList k = k + 1) :
    Calls Tryd.prog 28 #[.string s, .int .i64 k] w fun e w' => e = .returned (tokVal (tokAt s.data.toList k)) ∧ Below w.heap.size w w' := by
  have hT : Hid (tokAt s.data.toList k = some ((2, ((s.data.toList.getD k 0).toNat : Int) - 97, (k : Int)), k + 1)) := by
    refine Lib.hid ?_; unfold tokAt; rw [if_neg (by rw [hd]; exact Bool.false_ne_true), if_pos hl, if_pos h1]
  have ha := at_getD s k hk
  rw [← ha] at hT hl
  simp only [isLe, Bool.and_eq_true, decide_eq_true_eq] at hl
  have b1 : 97 ≤ (s[k].toNat : Int) := by omega
  have b2 : (s[k].toNat : Int) ≤ 122 := by omega
  have HE := Lib.hid h1
  clear h1 hd ha hl
  go_enter Tryd.func28, Tryd.ntmps28
  go_wp2_with fail
  refine (endOf_letter s k _ (by omega) hs).mono ?_
  rintro e w' ⟨rfl, rfl⟩
  rw [HE.out]
  go_wp2
  refine bodyPost_ret (v := tokVal (tokAt s.data.toList k)) ?_ rfl ⟨rfl, ?_⟩
  · rw [hT.out]; exact (results_tok Tryd.results28 _ _ w.heap.size _ _ _ (by rfl) (Blk.new w 40 _)).trans (by rfl)
  · exact (Below.refl _ _).alloc (Nat.le_refl _) _

theorem tokVal_at (r : Option (Tk × Nat)) : ∃ a b c d e, tokVal r = .tuple #[.agg #[.int .i64 a, .int .i64 b, .int .i64 c], .int .i64 d, .bool e] := by
  cases r with
  | none => exact ⟨0, 0, 0, 0, false, rfl⟩
  | some x => exact ⟨x.1.1, x.1.2.1, x.1.2.2, x.2, true, rfl⟩

set_option maxHeartbeats 1000000 in
theorem wordAt_more (s : ByteArray) (k : Nat) (w : World) (hL : Laid w) (hk : k < s.size) (hs : s.size ≤ 1000000) (hd : isDg (s.data.toList.getD k 0) = false) (hl : isLe (s.data.toList.getD k 0) = true) (h1 : ¬ upto isLe s.data.toList k = k + 1) :
    Calls Tryd.prog 28 #[.string s, .int .i64 k] w fun e w' => e = .returned (tokVal (tokAt s.data.toList k)) ∧ Below w.heap.size w w' := by
  have hT : Hid (tokAt s.data.toList k = fixTok s.data.toList k (upto isLe s.data.toList k)) := by
    refine Lib.hid ?_; unfold tokAt; rw [if_neg (by rw [hd]; exact Bool.false_ne_true), if_pos hl, if_neg h1]
  have hu : upto isLe s.data.toList k ≤ s.size := by have := upto_le isLe s.data.toList k (by rw [← Lib.size_eq]; omega); rw [← Lib.size_eq] at this; exact this
  have hu2 := le_upto isLe s.data.toList k
  have HL1 := Lib.hid (hL.after (((Below.refl w.heap.size w).alloc (Nat.le_refl _) (.cells #[.int .i64 0, .int .i64 0, .int .i64 0] 40))))
  generalize hE : upto isLe s.data.toList k = E at *
  have HE := Lib.hid hE
  have h2 : ((E : Int) == (k : Int) + 1) = false := by simp; omega
  clear h1 hd hl hE
  obtain ⟨a, b, c, d, f, hv⟩ := tokVal_at (fixTok s.data.toList k E)
  have HV := Lib.hid hv
  clear hv
  go_enter Tryd.func28, Tryd.ntmps28
  go_wp2_with fail
  refine (endOf_letter s k _ (by omega) hs).mono ?_
  rintro e w' ⟨rfl, rfl⟩
  rw [HE.out]
  go_wp2_with fail
  refine (fixedAt_any s k E _ HL1.out hu2 hu hs).mono ?_
  rintro e w1 ⟨rfl, hb⟩
  rw [HV.out]
  obtain ⟨hc, hf⟩ := bcell hb
  have hB := (Blk.new w 40 #[.int .i64 0, .int .i64 0, .int .i64 0]).below hb (by simp)
  have HB := Lib.hid hB
  clear hB
  go_wp2
  refine bodyPost_ret (v := tokVal (tokAt s.data.toList k)) ?_ rfl ⟨rfl, ?_⟩
  · rw [hT.out, HV.out]; exact (results_tok Tryd.results28 _ _ w.heap.size _ _ _ (by rfl) (HB.out.set3 _ _ _)).trans (by rfl)
  · exact ((((Below.refl _ _).alloc (Nat.le_refl _) _).trans (hb.mono (by simp))).setCell (by simp) _ |>.setCell (by simp) _).setCell (by simp) _
end Go.Proofs.YtmiampdeniihmaaDoor
