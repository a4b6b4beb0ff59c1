/- Charts as bytes, and bytes as charts, as plain functions; and that each undoes the other. No program in this text. -/
import Derived.Test.YtkdgcdcakioajaaGreatDoorCpure
import Derived.Lib.VarintMem
namespace Go.Proofs.YtkdgcdcakioajaaGreatDoor
set_option linter.unusedVariables false

/-! ### bytes of what is written -/
def encN (n : Int) : List UInt8 := Lib.uvarint n.toNat
def encS (s : ByteArray) : List UInt8 := encN s.size ++ s.data.toList
def encL {α : Type} (f : α → List UInt8) (l : List α) : List UInt8 := encN l.length ++ l.flatMap f
def encAc (a : Ac) : List UInt8 := encN a.kind ++ (encN a.n ++ (encN a.m ++ encS a.expr))
def encSt (s : St) : List UInt8 := encN s.kind ++ (encN (s.par + 1) ++ (encL encN s.ini ++ (encL encAc s.ent ++ encL encAc s.exi)))
def encB (b : Bool) : List UInt8 := encN (if b = true then 1 else 0)
def encTr (t : Tr) : List UInt8 := encN t.src ++ (encN t.ev ++ (encS t.guard ++ (encL encN t.tgts ++ (encB t.inner ++ encL encAc t.acts))))
def encCh (C : Ch) : List UInt8 := encN C.vars ++ (encN C.sts.length ++ (encN C.trs.length ++ (C.sts.flatMap encSt ++ C.trs.flatMap encTr)))

/-! ### reading: where it is, and what is amiss (0: nothing) -/
abbrev RS := Nat × Int
/-- the number that bytes begin with (i of it are read, that are n), and how many bytes it has; none: 0 -/
def numF : Nat → List UInt8 → Nat → Nat → Nat × Nat
  | 0, _, _, _ => (0, 0)
  | _ + 1, [], _, _ => (0, 0)
  | m + 1, c :: r, i, n =>
    if c.toNat = 0 ∧ 0 < i then (0, 0)
    else if c.toNat < 128 then (n + c.toNat % 128 * 128 ^ i, i + 1)
    else numF m r (i + 1) (n + c.toNat % 128 * 128 ^ i)
def numOf (l : List UInt8) : Nat × Nat := numF 5 l 0 0
def upToP (l : List UInt8) (most above : Int) (s : RS) : Int × RS :=
  if s.2 ≠ 0 then (0, s)
  else if (numOf (l.drop s.1)).2 = 0 ∨ 2147483647 < ((numOf (l.drop s.1)).1 : Int) then (0, (s.1, 2))
  else if most < ((numOf (l.drop s.1)).1 : Int) then (0, (s.1, above))
  else (((numOf (l.drop s.1)).1 : Int), (s.1 + (numOf (l.drop s.1)).2, 0))
def numP (l : List UInt8) : RS → Int × RS := upToP l 2147483647 2
def textP (l : List UInt8) (s : RS) : ByteArray × RS :=
  if (l.length : Int) - ((upToP l 200 3 s).2.1 : Int) < (upToP l 200 3 s).1 then (⟨#[]⟩, ((upToP l 200 3 s).2.1, 2))
  else (⟨((l.drop (upToP l 200 3 s).2.1).take (upToP l 200 3 s).1.toNat).toArray⟩, ((upToP l 200 3 s).2.1 + (upToP l 200 3 s).1.toNat, (upToP l 200 3 s).2.2))
def truthP (l : List UInt8) (s : RS) : Bool × RS := (decide ((upToP l 1 2 s).1 = 1), (upToP l 1 2 s).2)
def eachP {α : Type} (p : RS → α × RS) : Nat → RS → List α × RS
  | 0, s => ([], s)
  | n + 1, s => ((p s).1 :: (eachP p n (p s).2).1, (eachP p n (p s).2).2)
def rowP {α : Type} (l : List UInt8) (most : Int) (p : RS → α × RS) (s : RS) : List α × RS :=
  eachP p (upToP l most 3 s).1.toNat (upToP l most 3 s).2
/-- one, and then another one -/
def thenP {α β : Type} (p : RS → α × RS) (q : RS → β × RS) (s : RS) : (α × β) × RS := (((p s).1, (q (p s).2).1), (q (p s).2).2)
def asP {α β : Type} (f : α → β) (p : RS → α × RS) (s : RS) : β × RS := (f (p s).1, (p s).2)
def acP (l : List UInt8) : RS → Ac × RS := asP (fun x => ⟨x.1, x.2.1, x.2.2.1, x.2.2.2⟩) (thenP (numP l) (thenP (numP l) (thenP (numP l) (textP l))))
def stP (l : List UInt8) : RS → St × RS :=
  asP (fun x => ⟨x.1, x.2.1 - 1, x.2.2.1, x.2.2.2.1, x.2.2.2.2⟩) (thenP (numP l) (thenP (numP l) (thenP (rowP l 3 (numP l)) (thenP (rowP l 5 (acP l)) (rowP l 5 (acP l))))))
def trP (l : List UInt8) : RS → Tr × RS :=
  asP (fun x => ⟨x.1, x.2.1, x.2.2.1, x.2.2.2.1, x.2.2.2.2.1, x.2.2.2.2.2⟩) (thenP (numP l) (thenP (numP l) (thenP (textP l) (thenP (rowP l 3 (numP l)) (thenP (truthP l) (rowP l 5 (acP l)))))))
def s1 (l : List UInt8) (s : RS) : RS := (numP l s).2
def s2 (l : List UInt8) (s : RS) : RS := (upToP l 24 3 (s1 l s)).2
def s3 (l : List UInt8) (s : RS) : RS := (upToP l 40 3 (s2 l s)).2
def nSt (l : List UInt8) (s : RS) : Nat := (upToP l 24 3 (s1 l s)).1.toNat
def nTr (l : List UInt8) (s : RS) : Nat := (upToP l 40 3 (s2 l s)).1.toNat
def chP (l : List UInt8) (s : RS) : Ch × RS :=
  (⟨(numP l s).1, (eachP (stP l) (nSt l s) (s3 l s)).1, (eachP (trP l) (nTr l s) (eachP (stP l) (nSt l s) (s3 l s)).2).1⟩, (eachP (trP l) (nTr l s) (eachP (stP l) (nSt l s) (s3 l s)).2).2)
def endP (l : List UInt8) (s : RS) : RS := if s.2 = 0 ∧ s.1 < l.length then (s.1, 2) else s

/-! ### a reader and a writer that fit -/
structure Cod {α : Type} (l : List UInt8) (p : RS → α × RS) (e : α → List UInt8) (G : α → Prop) : Prop where
  le : ∀ s, s.1 ≤ l.length → s.1 ≤ (p s).2.1 ∧ (p s).2.1 ≤ l.length
  sound : ∀ s, s.1 ≤ l.length → (p s).2.2 = 0 → s.2 = 0 ∧ G (p s).1 ∧ l.drop s.1 = e (p s).1 ++ l.drop (p s).2.1
  comp : ∀ (k : Nat) x r, k ≤ l.length → G x → l.drop k = e x ++ r → p (k, 0) = (x, (k + (e x).length, 0))
theorem drop_next {l a r : List UInt8} {k : Nat} (hk : k ≤ l.length) (h : l.drop k = a ++ r) : k + a.length ≤ l.length ∧ l.drop (k + a.length) = r := by
  have h1 := congrArg List.length h
  rw [List.length_drop, List.length_append] at h1
  refine ⟨by omega, ?_⟩
  rw [← List.drop_drop, h, List.drop_left]
theorem Cod.asP {α β : Type} {l : List UInt8} {p : RS → α × RS} {e : α → List UInt8} {G : α → Prop} (h : Cod l p e G) (f : α → β) (g : β → α) (e' : β → List UInt8) (G' : β → Prop)
    (he : ∀ x, G x → e' (f x) = e x) (hg : ∀ x, G x → G' (f x)) (hb : ∀ y, G' y → G (g y) ∧ f (g y) = y) : Cod l (asP f p) e' G' := by
  refine ⟨h.le, fun s hs h0 => ?_, fun k x r hk hx hd => ?_⟩
  · obtain ⟨a, b, c⟩ := h.sound s hs h0
    exact ⟨a, hg _ b, by show _ = e' (f _) ++ _; rw [he _ b]; exact c⟩
  · obtain ⟨b1, b2⟩ := hb x hx
    have he' : e' x = e (g x) := by rw [← he _ b1, b2]
    have := h.comp k (g x) r hk b1 (by rw [← he']; exact hd)
    show (f (p (k, 0)).1, (p (k, 0)).2) = _
    rw [this, b2, he']
theorem Cod.thenP {α β : Type} {l : List UInt8} {p : RS → α × RS} {q : RS → β × RS} {e : α → List UInt8} {d : β → List UInt8} {G : α → Prop} {H : β → Prop} (h : Cod l p e G) (k : Cod l q d H) :
    Cod l (thenP p q) (fun x => e x.1 ++ d x.2) (fun x => G x.1 ∧ H x.2) := by
  refine ⟨fun s hs => ?_, fun s hs h0 => ?_, fun i x r hi hx hd => ?_⟩
  · have a := h.le s hs
    have b := k.le (p s).2 a.2
    exact ⟨Nat.le_trans a.1 b.1, b.2⟩
  · have a := h.le s hs
    obtain ⟨b1, b2, b3⟩ := k.sound (p s).2 a.2 h0
    obtain ⟨c1, c2, c3⟩ := h.sound s hs b1
    refine ⟨c1, ⟨c2, b2⟩, ?_⟩
    show _ = (e (p s).1 ++ d (q (p s).2).1) ++ _
    rw [List.append_assoc, c3]
    exact congrArg (e (p s).1 ++ ·) b3
  · simp only [List.append_assoc] at hd
    have a := h.comp i x.1 _ hi hx.1 hd
    obtain ⟨n1, n2⟩ := drop_next hi hd
    have b := k.comp (i + (e x.1).length) x.2 r n1 hx.2 n2
    show (((p (i, 0)).1, (q (p (i, 0)).2).1), (q (p (i, 0)).2).2) = _
    rw [a]
    simp only
    rw [b]
    simp only [List.length_append, Nat.add_assoc]
theorem Cod.mono {α : Type} {l : List UInt8} {p : RS → α × RS} {e : α → List UInt8} {G : α → Prop} (h : Cod l p e G) {e' : α → List UInt8} {G' : α → Prop} (he : ∀ x, e' x = e x) (hg : ∀ x, G x ↔ G' x) : Cod l p e' G' :=
  ⟨h.le, fun s hs h0 => let ⟨a, b, c⟩ := h.sound s hs h0; ⟨a, (hg _).1 b, by rw [he]; exact c⟩, fun k x r hk hx hd => by rw [he]; exact h.comp k x r hk ((hg _).2 hx) (by rw [← he]; exact hd)⟩
theorem Cod.eachP {α : Type} {l : List UInt8} {p : RS → α × RS} {e : α → List UInt8} {G : α → Prop} (h : Cod l p e G) : ∀ n, Cod l (eachP p n) (fun xs => xs.flatMap e) (fun xs => xs.length = n ∧ ∀ x ∈ xs, G x)
  | 0 => by
    refine ⟨fun s hs => ⟨Nat.le_refl _, hs⟩, fun s hs h0 => ⟨h0, ⟨rfl, fun x hx => by simp [Go.Proofs.YtkdgcdcakioajaaGreatDoor.eachP] at hx⟩, rfl⟩, fun k x r hk hx hd => ?_⟩
    obtain rfl : x = [] := List.eq_nil_of_length_eq_zero hx.1
    rfl
  | n + 1 => by
    have ih := h.eachP n
    refine ⟨fun s hs => ?_, fun s hs h0 => ?_, fun k x r hk hx hd => ?_⟩
    · have a := h.le s hs
      have b := ih.le (p s).2 a.2
      exact ⟨Nat.le_trans a.1 b.1, b.2⟩
    · have a := h.le s hs
      obtain ⟨b1, ⟨b2, b3⟩, b4⟩ := ih.sound (p s).2 a.2 h0
      obtain ⟨c1, c2, c3⟩ := h.sound s hs b1
      refine ⟨c1, ⟨by show _ + 1 = _; rw [b2], fun x hx => ?_⟩, ?_⟩
      · rcases List.mem_cons.1 hx with rfl | hx
        · exact c2
        · exact b3 x hx
      · show _ = ((p s).1 :: (Go.Proofs.YtkdgcdcakioajaaGreatDoor.eachP p n (p s).2).1).flatMap e ++ _
        rw [List.flatMap_cons, List.append_assoc, c3]
        exact congrArg (e (p s).1 ++ ·) b4
    · cases x with
      | nil => exact absurd hx.1 (by simp)
      | cons y ys =>
        have hy := hx.2 y (by simp)
        rw [List.flatMap_cons, List.append_assoc] at hd
        have a := h.comp k y _ hk hy hd
        obtain ⟨n1, n2⟩ := drop_next hk hd
        have b := ih.comp (k + (e y).length) ys r n1 ⟨by simpa using hx.1, fun z hz => hx.2 z (by simp [hz])⟩ n2
        show ((p (k, 0)).1 :: (Go.Proofs.YtkdgcdcakioajaaGreatDoor.eachP p n (p (k, 0)).2).1, (Go.Proofs.YtkdgcdcakioajaaGreatDoor.eachP p n (p (k, 0)).2).2) = _
        rw [a]
        simp only
        rw [b]
        simp only [List.flatMap_cons, List.length_append, Nat.add_assoc]

/-! ### numbers -/
theorem numF_sound : ∀ (m : Nat) (l : List UInt8) (i n : Nat), (numF m l i n).2 ≠ 0 → ∃ y, (numF m l i n).1 = n + 128 ^ i * y ∧ (numF m l i n).2 = i + (Lib.uvarint y).length ∧ l = Lib.uvarint y ++ l.drop (Lib.uvarint y).length ∧ (0 < i → y ≠ 0)
  | 0, l, i, n, h => by exact absurd rfl h
  | m + 1, [], i, n, h => by exact absurd rfl h
  | m + 1, c :: r, i, n, h => by
    rw [numF] at h ⊢
    by_cases h0 : c.toNat = 0 ∧ 0 < i
    · rw [if_pos h0] at h; exact absurd rfl h
    · rw [if_neg h0] at h ⊢
      by_cases h1 : c.toNat < 128
      · rw [if_pos h1] at h ⊢
        have hu : Lib.uvarint c.toNat = [c] := by rw [Lib.uvarint_small h1]; simp
        refine ⟨c.toNat, ?_, by rw [hu]; rfl, by rw [hu]; rfl, fun hi h2 => h0 ⟨h2, hi⟩⟩
        rw [Nat.mod_eq_of_lt h1, Nat.mul_comm]
      · rw [if_neg h1] at h ⊢
        obtain ⟨y, e1, e2, e3, e4⟩ := numF_sound m r (i + 1) _ h
        have hy := e4 (by omega)
        have hc := c.toNat_lt
        have hu : Lib.uvarint (c.toNat % 128 + 128 * y) = c :: Lib.uvarint y := by
          rw [Lib.uvarint_big (by omega), show (c.toNat % 128 + 128 * y) / 128 = y by omega, show (c.toNat % 128 + 128 * y) % 128 + 128 = c.toNat by omega]
          simp
        refine ⟨c.toNat % 128 + 128 * y, ?_, ?_, ?_, fun _ => by omega⟩
        · rw [e1, Nat.pow_succ, Nat.mul_add, Nat.add_assoc, Nat.mul_comm (c.toNat % 128), Nat.mul_assoc]
        · rw [e2, hu, List.length_cons]; omega
        · rw [hu, List.length_cons, List.drop_succ_cons, List.cons_append, ← e3]
theorem numF_comp : ∀ (m y : Nat) (r : List UInt8) (i n : Nat), y < 128 ^ m → (0 < i → y ≠ 0) → 0 < m → numF m (Lib.uvarint y ++ r) i n = (n + 128 ^ i * y, i + (Lib.uvarint y).length)
  | 0, y, r, i, n, h, hi, hm => by omega
  | m + 1, y, r, i, n, h, hi, hm => by
    by_cases hy : y < 128
    · rw [Lib.uvarint_small hy]
      have hn : (y.toUInt8).toNat = y := Lib.toUInt8_toNat (by omega)
      rw [List.cons_append, numF, hn, if_neg (fun hc => hi hc.2 hc.1), if_pos hy, Nat.mod_eq_of_lt hy, Nat.mul_comm]
      rfl
    · rw [Lib.uvarint_big (by omega)]
      have hn : ((y % 128 + 128).toUInt8).toNat = y % 128 + 128 := Lib.toUInt8_toNat (by omega)
      have hm0 : 0 < m := by
        rcases Nat.eq_zero_or_pos m with rfl | hm0
        · simp at h; omega
        · exact hm0
      rw [List.cons_append, numF, hn, if_neg (by omega), if_neg (by omega), numF_comp m (y / 128) r (i + 1) _ (by rw [Nat.pow_succ] at h; exact Nat.div_lt_of_lt_mul (by rw [Nat.mul_comm]; exact h)) (by omega) hm0]
      rw [List.length_cons]
      refine Prod.ext ?_ (by simp only; omega)
      simp only
      rw [show (y % 128 + 128) % 128 = y % 128 by omega, Nat.pow_succ, Nat.add_assoc, Nat.mul_comm (y % 128), Nat.mul_assoc, ← Nat.mul_add]
      congr 2
      omega
theorem numOf_sound {l : List UInt8} (h : (numOf l).2 ≠ 0) : (numOf l).2 = (Lib.uvarint (numOf l).1).length ∧ l = Lib.uvarint (numOf l).1 ++ l.drop (Lib.uvarint (numOf l).1).length := by
  obtain ⟨y, e1, e2, e3, _⟩ := numF_sound 5 l 0 0 h
  have e1' : (numOf l).1 = y := by show (numF 5 l 0 0).1 = y; rw [e1]; simp
  have e2' : (numOf l).2 = (Lib.uvarint y).length := by show (numF 5 l 0 0).2 = _; rw [e2]; simp
  rw [e1', e2']
  exact ⟨rfl, e3⟩
theorem numOf_comp {y : Nat} {r : List UInt8} (h : y ≤ 2147483647) : numOf (Lib.uvarint y ++ r) = (y, (Lib.uvarint y).length) := by
  unfold numOf
  rw [numF_comp 5 y r 0 0 (by omega) (by omega) (by omega)]
  simp
theorem numOf_le (l : List UInt8) : (numOf l).2 ≤ l.length := by
  by_cases h : (numOf l).2 = 0
  · omega
  · obtain ⟨h1, h2⟩ := numOf_sound h
    have := congrArg List.length h2
    rw [List.length_append] at this
    omega
theorem upTo_cod (l : List UInt8) (most above : Int) (hm : most ≤ 2147483647) (ha : above ≠ 0) : Cod l (upToP l most above) encN (fun x => 0 ≤ x ∧ x ≤ most) := by
  refine ⟨fun s hs => ?_, fun s hs h0 => ?_, fun k x r hk hx hd => ?_⟩
  · have := numOf_le (l.drop s.1)
    rw [List.length_drop] at this
    unfold upToP
    split
    · exact ⟨Nat.le_refl _, hs⟩
    · split
      · exact ⟨Nat.le_refl _, hs⟩
      · split
        · exact ⟨Nat.le_refl _, hs⟩
        · exact ⟨Nat.le_add_right _ _, by simp only; omega⟩
  · unfold upToP at h0 ⊢
    by_cases h1 : s.2 ≠ 0
    · rw [if_pos h1] at h0; exact absurd h0 h1
    · rw [if_neg h1] at h0 ⊢
      by_cases h2 : (numOf (l.drop s.1)).2 = 0 ∨ 2147483647 < ((numOf (l.drop s.1)).1 : Int)
      · rw [if_pos h2] at h0; exact absurd h0 (by show ¬ (2 : Int) = 0; decide)
      · rw [if_neg h2] at h0 ⊢
        by_cases h3 : most < ((numOf (l.drop s.1)).1 : Int)
        · rw [if_pos h3] at h0; exact absurd h0 ha
        · rw [if_neg h3]
          obtain ⟨e1, e2⟩ := numOf_sound (l := l.drop s.1) (by omega)
          refine ⟨by omega, ⟨by simp only; omega, by simp only; omega⟩, ?_⟩
          simp only
          rw [e1, ← List.drop_drop]
          exact e2
  · have h1 : numOf (l.drop k) = (x.toNat, (encN x).length) := by rw [hd]; exact numOf_comp (by omega)
    unfold upToP
    simp only
    rw [h1, if_neg (by simp), if_neg]
    · simp only
      rw [if_neg (by omega), show ((x.toNat : Nat) : Int) = x by omega]
    · rintro (h | h)
      · have := Lib.uvarint_pos x.toNat; unfold encN at h; simp only at h; omega
      · simp only at h; omega
theorem num_cod (l : List UInt8) : Cod l (numP l) encN (fun x => 0 ≤ x ∧ x ≤ 2147483647) := upTo_cod l _ _ (by omega) (by omega)
theorem upTo_range (l : List UInt8) (most above : Int) (hm : 0 ≤ most) (s : RS) : 0 ≤ (upToP l most above s).1 ∧ (upToP l most above s).1 ≤ most := by
  unfold upToP
  split
  · exact ⟨Int.le_refl _, hm⟩
  · split
    · exact ⟨Int.le_refl _, hm⟩
    · split
      · exact ⟨Int.le_refl _, hm⟩
      · exact ⟨by simp only; omega, by simp only; omega⟩

/-! ### texts, truths, rows -/
theorem text_cod (l : List UInt8) : Cod l (textP l) encS (fun s => s.size ≤ 200) := by
  have hc := upTo_cod l 200 3 (by omega) (by omega)
  refine ⟨fun s hs => ?_, fun s hs h0 => ?_, fun k x r hk hx hd => ?_⟩
  · have h := hc.le s hs
    have hr := upTo_range l 200 3 (by omega) s
    unfold textP
    split
    · exact h
    · exact ⟨by simp only; omega, by simp only; omega⟩
  · have hle := (hc.le s hs).2
    unfold textP at h0 ⊢
    by_cases h1 : (l.length : Int) - ((upToP l 200 3 s).2.1 : Int) < (upToP l 200 3 s).1
    · rw [if_pos h1] at h0; exact absurd h0 (by show ¬ (2 : Int) = 0; decide)
    · rw [if_neg h1] at h0 ⊢
      obtain ⟨a, b, c⟩ := hc.sound s hs h0
      have hl : ((l.drop (upToP l 200 3 s).2.1).take (upToP l 200 3 s).1.toNat).length = (upToP l 200 3 s).1.toNat := by
        rw [List.length_take, List.length_drop]; omega
      have hz : (⟨((l.drop (upToP l 200 3 s).2.1).take (upToP l 200 3 s).1.toNat).toArray⟩ : ByteArray).size = (upToP l 200 3 s).1.toNat := by
        rw [Lib.size_eq]; exact hl
      refine ⟨a, by simp only; rw [hz]; omega, ?_⟩
      simp only
      unfold encS
      rw [hz, show (((upToP l 200 3 s).1.toNat : Nat) : Int) = (upToP l 200 3 s).1 by omega, c, List.append_assoc]
      congr 1
      rw [← List.drop_drop]
      exact (List.take_append_drop _ _).symm
  · unfold encS at hd
    rw [List.append_assoc] at hd
    have a := hc.comp k (x.size : Int) _ hk ⟨by omega, by omega⟩ hd
    obtain ⟨n1, n2⟩ := drop_next hk hd
    obtain ⟨n3, n4⟩ := drop_next n1 n2
    have hz := Lib.size_eq x
    unfold textP
    rw [a]
    simp only
    rw [if_neg (by omega), n2]
    refine Prod.ext ?_ (Prod.ext ?_ rfl)
    · simp only
      rw [show ((x.size : Int)).toNat = x.data.toList.length by omega, List.take_left]
    · simp only
      unfold encS
      rw [List.length_append]
      omega
theorem truth_cod (l : List UInt8) : Cod l (truthP l) encB (fun _ => True) := by
  have hc := upTo_cod l 1 2 (by omega) (by omega)
  refine hc.asP (fun x : Int => decide (x = 1)) (fun b : Bool => if b = true then (1 : Int) else 0) encB (fun _ => True) (fun x hx => ?_) (fun _ _ => trivial) (fun y _ => ?_)
  · unfold encB
    rcases (show x = 0 ∨ x = 1 by omega) with rfl | rfl <;> rfl
  · cases y <;> simp
theorem row_cod {α : Type} {l : List UInt8} {p : RS → α × RS} {e : α → List UInt8} {G : α → Prop} (h : Cod l p e G) (most : Int) (hm : most ≤ 2147483647) : Cod l (rowP l most p) (encL e) (fun xs => (xs.length : Int) ≤ most ∧ ∀ x ∈ xs, G x) := by
  have hc := upTo_cod l most 3 hm (by omega)
  refine ⟨fun s hs => ?_, fun s hs h0 => ?_, fun k x r hk hx hd => ?_⟩
  · have a := hc.le s hs
    have b := (h.eachP (upToP l most 3 s).1.toNat).le _ a.2
    exact ⟨Nat.le_trans a.1 b.1, b.2⟩
  · have a := hc.le s hs
    obtain ⟨b1, ⟨b2, b3⟩, b4⟩ := (h.eachP (upToP l most 3 s).1.toNat).sound _ a.2 h0
    obtain ⟨c1, c2, c3⟩ := hc.sound s hs b1
    have hl : (((rowP l most p s).1.length : Nat) : Int) = (upToP l most 3 s).1 := by
      show (((Go.Proofs.YtkdgcdcakioajaaGreatDoor.eachP p _ _).1.length : Nat) : Int) = _
      rw [b2]; omega
    refine ⟨c1, ⟨by rw [hl]; exact c2.2, b3⟩, ?_⟩
    unfold encL
    rw [hl, c3, List.append_assoc]
    exact congrArg (encN _ ++ ·) b4
  · unfold encL at hd
    rw [List.append_assoc] at hd
    have a := hc.comp k (x.length : Int) _ hk ⟨by omega, hx.1⟩ hd
    obtain ⟨n1, n2⟩ := drop_next hk hd
    have b := (h.eachP x.length).comp _ x r n1 ⟨rfl, hx.2⟩ n2
    unfold rowP
    rw [a]
    simp only
    rw [show ((x.length : Int)).toNat = x.length by omega, b]
    unfold encL
    simp only [List.length_append, Nat.add_assoc]

/-! ### actions, states, transitions, charts -/
def okN (x : Int) : Prop := 0 ≤ x ∧ x ≤ 2147483647
def okAc (a : Ac) : Prop := okN a.kind ∧ okN a.n ∧ okN a.m ∧ a.expr.size ≤ 200
def okL {α : Type} (most : Int) (G : α → Prop) (xs : List α) : Prop := (xs.length : Int) ≤ most ∧ ∀ x ∈ xs, G x
def okSt (s : St) : Prop := okN s.kind ∧ okN (s.par + 1) ∧ okL 3 okN s.ini ∧ okL 5 okAc s.ent ∧ okL 5 okAc s.exi
def okTr (t : Tr) : Prop := okN t.src ∧ okN t.ev ∧ t.guard.size ≤ 200 ∧ okL 3 okN t.tgts ∧ okL 5 okAc t.acts
def okCh (C : Ch) : Prop := okN C.vars ∧ okL 24 okSt C.sts ∧ okL 40 okTr C.trs
theorem ac_cod (l : List UInt8) : Cod l (acP l) encAc okAc :=
  ((num_cod l).thenP ((num_cod l).thenP ((num_cod l).thenP (text_cod l)))).asP _ (fun a : Ac => (a.kind, a.n, a.m, a.expr)) encAc okAc (fun _ _ => rfl) (fun _ h => h) (fun _ h => ⟨h, rfl⟩)
theorem st_cod (l : List UInt8) : Cod l (stP l) encSt okSt :=
  ((num_cod l).thenP ((num_cod l).thenP ((row_cod (num_cod l) 3 (by omega)).thenP ((row_cod (ac_cod l) 5 (by omega)).thenP (row_cod (ac_cod l) 5 (by omega)))))).asP _ (fun s : St => (s.kind, s.par + 1, s.ini, s.ent, s.exi)) encSt okSt
    (fun x _ => by unfold encSt; simp only [Int.sub_add_cancel]) (fun x h => by unfold okSt; simp only [Int.sub_add_cancel]; exact h) (fun y h => ⟨h, by cases y; simp only [Int.add_sub_cancel]⟩)
theorem tr_cod (l : List UInt8) : Cod l (trP l) encTr okTr :=
  ((num_cod l).thenP ((num_cod l).thenP ((text_cod l).thenP ((row_cod (num_cod l) 3 (by omega)).thenP ((truth_cod l).thenP (row_cod (ac_cod l) 5 (by omega))))))).asP _ (fun t : Tr => (t.src, t.ev, t.guard, t.tgts, t.inner, t.acts)) encTr okTr
    (fun _ _ => rfl) (fun _ h => ⟨h.1, h.2.1, h.2.2.1, h.2.2.2.1, h.2.2.2.2.2⟩) (fun _ h => ⟨⟨h.1, h.2.1, h.2.2.1, h.2.2.2.1, trivial, h.2.2.2.2⟩, rfl⟩)
/-- where the chart's reading is behind each of its parts -/
theorem ch_sound {l : List UInt8} (h0 : (chP l (0, 0)).2.2 = 0) : okCh (chP l (0, 0)).1 ∧ l = encCh (chP l (0, 0)).1 ++ l.drop (chP l (0, 0)).2.1 := by
  have a1 := (num_cod l).le (0, 0) (Nat.zero_le _)
  have a2 := (upTo_cod l 24 3 (by omega) (by omega)).le (s1 l (0, 0)) a1.2
  have a3 := (upTo_cod l 40 3 (by omega) (by omega)).le (s2 l (0, 0)) a2.2
  have a4 := ((st_cod l).eachP (nSt l (0, 0))).le (s3 l (0, 0)) a3.2
  obtain ⟨b1, ⟨b2, b3⟩, b4⟩ := ((tr_cod l).eachP (nTr l (0, 0))).sound _ a4.2 h0
  obtain ⟨c1, ⟨c2, c3⟩, c4⟩ := ((st_cod l).eachP (nSt l (0, 0))).sound _ a3.2 b1
  obtain ⟨d1, d2, d3⟩ := (upTo_cod l 40 3 (by omega) (by omega)).sound (s2 l (0, 0)) a2.2 c1
  obtain ⟨e1, e2, e3⟩ := (upTo_cod l 24 3 (by omega) (by omega)).sound (s1 l (0, 0)) a1.2 d1
  obtain ⟨f1, f2, f3⟩ := (num_cod l).sound (0, 0) (Nat.zero_le _) e1
  have hs : (((chP l (0, 0)).1.sts.length : Nat) : Int) = (upToP l 24 3 (s1 l (0, 0))).1 := by
    show (((eachP (stP l) (nSt l (0, 0)) (s3 l (0, 0))).1.length : Nat) : Int) = _
    rw [show (eachP (stP l) (nSt l (0, 0)) (s3 l (0, 0))).1.length = nSt l (0, 0) from c2]; unfold nSt; omega
  have ht : (((chP l (0, 0)).1.trs.length : Nat) : Int) = (upToP l 40 3 (s2 l (0, 0))).1 := by
    show (((eachP (trP l) (nTr l (0, 0)) _).1.length : Nat) : Int) = _
    rw [b2]; unfold nTr; omega
  refine ⟨⟨f2, ⟨by rw [hs]; exact e2.2, c3⟩, ⟨by rw [ht]; exact d2.2, b3⟩⟩, ?_⟩
  unfold encCh
  rw [hs, ht]
  simp only [List.append_assoc]
  refine (List.drop_zero (l := l)).symm.trans (f3.trans (congrArg (encN _ ++ ·) (e3.trans (congrArg (encN _ ++ ·) (d3.trans (congrArg (encN _ ++ ·) (c4.trans (congrArg (_ ++ ·) b4))))))))
theorem ch_comp {C : Ch} (h : okCh C) : chP (encCh C) (0, 0) = (C, ((encCh C).length, 0)) := by
  obtain ⟨h1, ⟨h2, h3⟩, h4, h5⟩ := h
  obtain ⟨l, hl⟩ : ∃ l, l = encCh C := ⟨_, rfl⟩
  rw [← hl]
  have hd : l.drop 0 = encN C.vars ++ (encN C.sts.length ++ (encN C.trs.length ++ (C.sts.flatMap encSt ++ (C.trs.flatMap encTr ++ [])))) := by rw [List.append_nil, List.drop_zero, hl]; rfl
  have a := (num_cod l).comp 0 _ _ (Nat.zero_le _) h1 hd
  obtain ⟨n1, d1⟩ := drop_next (Nat.zero_le _) hd
  have b := (upTo_cod l 24 3 (by omega) (by omega)).comp _ (C.sts.length : Int) _ n1 ⟨by omega, h2⟩ d1
  obtain ⟨n2, d2⟩ := drop_next n1 d1
  have c := (upTo_cod l 40 3 (by omega) (by omega)).comp _ (C.trs.length : Int) _ n2 ⟨by omega, h4⟩ d2
  obtain ⟨n3, d3⟩ := drop_next n2 d2
  have d := ((st_cod l).eachP C.sts.length).comp _ C.sts _ n3 ⟨rfl, h3⟩ d3
  obtain ⟨n4, d4⟩ := drop_next n3 d3
  have e := ((tr_cod l).eachP C.trs.length).comp _ C.trs _ n4 ⟨rfl, h5⟩ d4
  have hlen := congrArg List.length hd
  simp only [List.length_append, List.length_nil, List.drop_zero] at hlen
  unfold chP nTr nSt s3 s2 s1
  rw [a]
  simp only
  rw [b]
  simp only
  rw [c]
  simp only
  rw [show ((C.sts.length : Int)).toNat = C.sts.length by omega, show ((C.trs.length : Int)).toNat = C.trs.length by omega, d]
  simp only
  rw [e]
  refine Prod.ext rfl (Prod.ext ?_ rfl)
  simp only
  omega
/-- what Get tells -/
inductive GA where
  | ok (C : Ch)
  | spot (k : Int) (c : Int)
  | large
def getA (T : ByteArray → Int → Int → Bool) (l : List UInt8) : GA :=
  if (endP l (chP l (0, 0)).2).2 ≠ 0 then .spot (endP l (chP l (0, 0)).2).1 (endP l (chP l (0, 0)).2).2
  else match chk T (chP l (0, 0)).1 with
    | .ok => .ok (chP l (0, 0)).1
    | .large => .large
    | .spot k c => .spot k c
theorem get_put {T : ByteArray → Int → Int → Bool} {C : Ch} (h : okCh C) (hc : chk T C = .ok) : getA T (encCh C) = .ok C := by
  unfold getA
  rw [ch_comp h]
  have : endP (encCh C) ((encCh C).length, 0) = ((encCh C).length, 0) := by unfold endP; rw [if_neg (by simp)]
  rw [this, if_neg (by simp)]
  simp only
  rw [hc]
theorem put_get {T : ByteArray → Int → Int → Bool} {l : List UInt8} {C : Ch} (h : getA T l = .ok C) : encCh C = l ∧ okCh C ∧ chk T C = .ok := by
  unfold getA at h
  split at h
  · cases h
  · rename_i h1
    have h1' : (endP l (chP l (0, 0)).2).2 = 0 := by simpa using h1
    split at h
    · rename_i h2
      injection h with h
      unfold endP at h1'
      split at h1'
      · exact absurd h1' (by show ¬ (2 : Int) = 0; decide)
      · rename_i h3
        obtain ⟨k1, k2⟩ := ch_sound h1'
        rw [h] at k1 k2 h2
        have hd : l.drop (chP l (0, 0)).2.1 = [] := List.drop_eq_nil_of_le (by
          rcases Nat.lt_or_ge (chP l (0, 0)).2.1 l.length with hlt | hge
          · exact absurd ⟨h1', hlt⟩ h3
          · exact hge)
        rw [hd, List.append_nil] at k2
        exact ⟨k2.symm, k1, h2⟩
    · cases h
    · cases h

/-! ### where a chart may be, it can be written and read -/
theorem okN_of {x a b : Int} (h : fromB x a b = true) (ha : 0 ≤ a) (hb : b ≤ 100000) : okN x := by
  have := fromB_true.1 h
  exact ⟨by omega, by omega⟩
theorem getD_mem {α : Type} {xs : List α} {x d : α} (h : x ∈ xs) : ∃ i, i < xs.length ∧ xs.getD i d = x := by
  obtain ⟨i, hi, rfl⟩ := List.mem_iff_getElem.1 h
  exact ⟨i, hi, by simp [List.getD, List.getElem?_eq_getElem hi]⟩
section
variable {T : ByteArray → Int → Int → Bool} (hT : ∀ s v k, T s v k = true → s.size ≤ 200)
include hT
theorem okAc_of {vars : Int} {a : Ac} (hv : vars ≤ 8) (h : actB T vars a = true) : okAc a := by
  unfold actB at h
  by_cases h1 : a.kind = 1
  · rw [if_pos h1] at h
    simp only [Bool.and_eq_true, decide_eq_true_eq] at h
    exact ⟨⟨by omega, by omega⟩, okN_of h.1.1 (by omega) (by omega), ⟨by omega, by omega⟩, hT _ _ _ h.2⟩
  · rw [if_neg h1] at h
    by_cases h2 : a.kind = 2 ∨ a.kind = 4
    · rw [if_pos h2] at h
      simp only [Bool.and_eq_true, decide_eq_true_eq] at h
      exact ⟨⟨by omega, by omega⟩, okN_of h.1.1 (by omega) (by omega), ⟨by omega, by omega⟩, by omega⟩
    · rw [if_neg h2] at h
      by_cases h3 : a.kind = 3
      · rw [if_pos h3] at h
        simp only [Bool.and_eq_true] at h
        exact ⟨⟨by omega, by omega⟩, okN_of h.1.1 (by omega) (by omega), okN_of h.1.2 (by omega) (by omega), hT _ _ _ h.2⟩
      · rw [if_neg h3] at h
        by_cases h5 : a.kind = 5
        · rw [if_pos h5] at h
          simp only [Bool.and_eq_true, decide_eq_true_eq] at h
          exact ⟨⟨by omega, by omega⟩, ⟨by omega, by omega⟩, ⟨by omega, by omega⟩, hT _ _ _ h.2⟩
        · rw [if_neg h5] at h; cases h
theorem okActs_of {vars : Int} {l : List Ac} (hv : vars ≤ 8) (h : actsB T vars l = true) : okL 5 okAc l := by
  unfold actsB at h
  simp only [Bool.and_eq_true, decide_eq_true_eq] at h
  refine ⟨by omega, fun x hx => ?_⟩
  obtain ⟨i, hi, rfl⟩ := getD_mem (d := noAc) hx
  exact okAc_of hT hv (of_allU h.2 i hi)
theorem okSt_of {C : Ch} (h : chk T C = .ok) {s : Nat} (hs : s < C.sts.length) : okSt (C.sts.getD s noSt) := by
  obtain ⟨h0, h1, _⟩ := chk_ok h
  unfold sizedB at h0
  simp only [Bool.and_eq_true, decide_eq_true_eq] at h0
  have hv := (fromB_true.1 h0.1.1).2
  have hn := (fromB_true.1 h0.1.2).2
  have hp : s ≠ 0 → 0 ≤ (stAt C.sts (s : Int)).par ∧ (stAt C.sts (s : Int)).par ≤ 24 := by
    intro hz
    obtain ⟨p0, _⟩ := par_of h (s : Int) (by omega) (by omega)
    obtain ⟨_, p2, p3⟩ := cUp_pos p0
    omega
  have hf := h1 s hs
  unfold stF at hf
  by_cases f1 : kindB C.sts (s : Int) = false
  · rw [if_pos f1] at hf; omega
  rw [if_neg f1] at hf
  by_cases f2 : parB C.sts (s : Int) = false
  · rw [if_pos f2] at hf; omega
  rw [if_neg f2] at hf
  by_cases f3 : kindInB C.sts (s : Int) = false
  · rw [if_pos f3] at hf; omega
  rw [if_neg f3] at hf
  by_cases f4 : needsB C.sts (s : Int) = true ∧ (kids C.sts (s : Int)).length = 0
  · rw [if_pos f4] at hf; omega
  rw [if_neg f4] at hf
  by_cases f5 : iniB C.sts (s : Int) = false
  · rw [if_pos f5] at hf; omega
  rw [if_neg f5] at hf
  by_cases f6 : stActsB T C.sts C.vars (s : Int) = false
  · rw [if_pos f6] at hf; omega
  have e : C.sts.getD s noSt = stAt C.sts (s : Int) := by unfold stAt; simp
  rw [e]
  simp only [Bool.not_eq_false] at f1 f2 f5 f6
  refine ⟨?_, ?_, ?_, ?_⟩
  · unfold kindB at f1
    split at f1
    · simp only [decide_eq_true_eq] at f1; exact ⟨by omega, by omega⟩
    · exact okN_of f1 (by omega) (by omega)
  · by_cases hz : s = 0
    · unfold parB at f2
      rw [if_pos (by omega)] at f2
      simp only [decide_eq_true_eq] at f2
      exact ⟨by omega, by omega⟩
    · have := hp hz
      exact ⟨by omega, by omega⟩
  · unfold iniB at f5
    split at f5
    · simp only [decide_eq_true_eq] at f5
      refine ⟨by omega, fun x hx => ?_⟩
      rw [List.length_eq_zero_iff.1 f5] at hx
      cases hx
    · split at f5
      · cases f5
      · rename_i g1 g2
        split at f5
        · cases f5
        · rename_i g3
          have g4 : isSt C.sts ((stAt C.sts (s : Int)).ini.getD 0 0) = true := by
            rw [← Bool.not_eq_false]; exact fun hc => g3 (.inl hc)
          unfold isSt at g4
          simp only [Bool.and_eq_true, decide_eq_true_eq] at g4
          refine ⟨by omega, fun x hx => ?_⟩
          obtain ⟨i, hi, rfl⟩ := getD_mem (d := 0) hx
          obtain rfl : i = 0 := by omega
          exact ⟨by omega, by omega⟩
  · unfold stActsB at f6
    split at f6
    · simp only [Bool.and_eq_true, decide_eq_true_eq] at f6
      rw [List.length_eq_zero_iff.1 f6.1, List.length_eq_zero_iff.1 f6.2]
      exact ⟨⟨by simp, by simp⟩, by simp, by simp⟩
    · simp only [Bool.and_eq_true] at f6
      exact ⟨okActs_of hT hv f6.1, okActs_of hT hv f6.2⟩
theorem okTr_of {C : Ch} (h : chk T C = .ok) {i : Nat} (hi : i < C.trs.length) : okTr (C.trs.getD i noTr) := by
  obtain ⟨h0, _, h2⟩ := chk_ok h
  unfold sizedB at h0
  simp only [Bool.and_eq_true, decide_eq_true_eq] at h0
  have hv := (fromB_true.1 h0.1.1).2
  have hn := (fromB_true.1 h0.1.2).2
  have hf := h2 i hi
  generalize C.trs.getD i noTr = t at *
  unfold trF at hf
  by_cases f1 : srcB C.sts t.src = false
  · rw [if_pos f1] at hf; omega
  rw [if_neg f1] at hf
  by_cases f2 : evB C.sts t.ev = false
  · rw [if_pos f2] at hf; omega
  rw [if_neg f2] at hf
  by_cases f3 : tgtsB C.sts t.tgts = false
  · rw [if_pos f3] at hf; omega
  rw [if_neg f3] at hf
  by_cases f4 : t.guard.size ≠ 0 ∧ T t.guard C.vars 2 = false
  · rw [if_pos f4] at hf; omega
  rw [if_neg f4] at hf
  by_cases f5 : actsB T C.vars t.acts = false
  · rw [if_pos f5] at hf; omega
  simp only [Bool.not_eq_false] at f1 f2 f3 f5
  have hst : ∀ x, notFirst C.sts x = true → okN x := by
    intro x hx
    unfold notFirst isSt at hx
    simp only [Bool.and_eq_true, decide_eq_true_eq] at hx
    exact ⟨by omega, by omega⟩
  refine ⟨?_, ?_, ?_, ?_, okActs_of hT hv f5⟩
  · unfold srcB at f1
    simp only [Bool.and_eq_true] at f1
    exact hst _ f1.1
  · unfold evB at f2
    simp only [Bool.or_eq_true, decide_eq_true_eq] at f2
    rcases f2 with ((f | f) | f) | f
    · exact okN_of f (by omega) (by omega)
    · exact ⟨by omega, by omega⟩
    · exact ⟨by omega, by omega⟩
    · exact okN_of f (by omega) (by omega)
  · by_cases hz : t.guard.size = 0
    · omega
    · have : T t.guard C.vars 2 = true := by rw [← Bool.not_eq_false]; exact fun hc => f4 ⟨hz, hc⟩
      exact hT _ _ _ this
  · unfold tgtsB at f3
    simp only [Bool.and_eq_true, decide_eq_true_eq] at f3
    refine ⟨by omega, fun x hx => ?_⟩
    obtain ⟨j, hj, rfl⟩ := getD_mem (d := 0) hx
    exact hst _ (of_allU f3.1.2 j hj)
theorem okCh_of {C : Ch} (h : chk T C = .ok) : okCh C := by
  have h0 := (chk_ok h).1
  unfold sizedB at h0
  simp only [Bool.and_eq_true, decide_eq_true_eq] at h0
  have hn := (fromB_true.1 h0.1.2).2
  refine ⟨okN_of h0.1.1 (by omega) (by omega), ⟨by omega, fun x hx => ?_⟩, by omega, fun x hx => ?_⟩
  · obtain ⟨i, hi, rfl⟩ := getD_mem (d := noSt) hx
    exact okSt_of hT h hi
  · obtain ⟨i, hi, rfl⟩ := getD_mem (d := noTr) hx
    exact okTr_of hT h hi
end

/-! ### how long what is written is -/
theorem encN_len {x : Int} (h : okN x) : (encN x).length ≤ 5 := Lib.uvarint_length 4 x.toNat (by have := h.2; simp; omega)
theorem encN_len24 (n : Nat) (h : n ≤ 100000) : (encN (n : Int)).length ≤ 5 := encN_len ⟨by omega, by omega⟩
theorem encS_len {s : ByteArray} (h : s.size ≤ 200) : (encS s).length ≤ 205 := by
  unfold encS
  have := encN_len24 s.size (by omega)
  have hz := Lib.size_eq s
  rw [List.length_append]
  omega
theorem flat_len {α : Type} {f : α → List UInt8} {K : Nat} : ∀ {xs : List α}, (∀ x ∈ xs, (f x).length ≤ K) → (xs.flatMap f).length ≤ xs.length * K
  | [], _ => by simp
  | x :: xs, h => by
    rw [List.flatMap_cons, List.length_append, List.length_cons, Nat.succ_mul]
    have a := h x (by simp)
    have b := flat_len (xs := xs) (fun y hy => h y (by simp [hy]))
    omega
theorem encL_len {α : Type} {f : α → List UInt8} {G : α → Prop} {K m : Nat} {xs : List α} (h : okL (m : Int) G xs) (hm : m ≤ 100) (hf : ∀ x, G x → (f x).length ≤ K) : (encL f xs).length ≤ 5 + m * K := by
  unfold encL
  rw [List.length_append]
  have hl := h.1
  have a := encN_len24 xs.length (by omega)
  have b := flat_len (K := K) (fun x hx => hf x (h.2 x hx))
  have c := Nat.mul_le_mul_right K (show xs.length ≤ m by omega)
  omega
theorem encAc_len {a : Ac} (h : okAc a) : (encAc a).length ≤ 220 := by
  unfold encAc
  simp only [List.length_append]
  have a1 := encN_len h.1; have a2 := encN_len h.2.1; have a3 := encN_len h.2.2.1; have a4 := encS_len h.2.2.2
  omega
theorem encSt_len {s : St} (h : okSt s) : (encSt s).length ≤ 3000 := by
  unfold encSt
  simp only [List.length_append]
  have a1 := encN_len h.1; have a2 := encN_len h.2.1
  have a3 := encL_len (f := encN) (m := 3) (K := 5) h.2.2.1 (by omega) (fun _ h => encN_len h)
  have a4 := encL_len (f := encAc) (m := 5) (K := 220) h.2.2.2.1 (by omega) (fun _ h => encAc_len h)
  have a5 := encL_len (f := encAc) (m := 5) (K := 220) h.2.2.2.2 (by omega) (fun _ h => encAc_len h)
  omega
theorem encTr_len {t : Tr} (h : okTr t) : (encTr t).length ≤ 3000 := by
  unfold encTr
  simp only [List.length_append]
  have a1 := encN_len h.1; have a2 := encN_len h.2.1
  have a3 := encS_len h.2.2.1
  have a4 := encL_len (f := encN) (m := 3) (K := 5) h.2.2.2.1 (by omega) (fun _ h => encN_len h)
  have a5 := encL_len (f := encAc) (m := 5) (K := 220) h.2.2.2.2 (by omega) (fun _ h => encAc_len h)
  have a6 : (encB t.inner).length ≤ 5 := by unfold encB; exact encN_len ⟨by split <;> omega, by split <;> omega⟩
  omega
theorem encCh_len {C : Ch} (h : okCh C) : (encCh C).length ≤ 1000000 := by
  unfold encCh
  simp only [List.length_append]
  obtain ⟨h1, ⟨h2, h3⟩, h4, h5⟩ := h
  have a1 := encN_len h1
  have a2 := encN_len24 C.sts.length (by omega)
  have a3 := encN_len24 C.trs.length (by omega)
  have a4 := flat_len (f := encSt) (K := 3000) (fun x hx => encSt_len (h3 x hx))
  have a5 := flat_len (f := encTr) (K := 3000) (fun x hx => encTr_len (h5 x hx))
  omega
/-- what is read is few -/
theorem few_of_ok {C : Ch} (h : okCh C) : fewB C = true := by
  obtain ⟨h1, ⟨h2, h3⟩, h4, h5⟩ := h
  have hacts : ∀ l : List Ac, okL 5 okAc l → fewActsB l = true := by
    intro l hl
    unfold fewActsB
    simp only [Bool.and_eq_true, decide_eq_true_eq]
    refine ⟨allU_true fun i hi => ?_, by have := hl.1; omega⟩
    simp only [decide_eq_true_eq]
    have : l.getD i noAc ∈ l := by simp [List.getD, List.getElem?_eq_getElem hi]
    have := (hl.2 _ this).2.2.2
    omega
  unfold fewB
  simp only [Bool.and_eq_true, decide_eq_true_eq]
  refine ⟨⟨⟨by omega, by omega⟩, allU_true fun i hi => ?_⟩, allU_true fun i hi => ?_⟩
  · have hm : C.sts.getD i noSt ∈ C.sts := by simp [List.getD, List.getElem?_eq_getElem hi]
    obtain ⟨_, _, k3, k4, k5⟩ := h3 _ hm
    unfold fewStB
    simp only [Bool.and_eq_true, decide_eq_true_eq]
    exact ⟨⟨hacts _ k4, hacts _ k5⟩, by have := k3.1; omega⟩
  · have hm : C.trs.getD i noTr ∈ C.trs := by simp [List.getD, List.getElem?_eq_getElem hi]
    obtain ⟨_, _, k3, k4, k5⟩ := h5 _ hm
    unfold fewTrB
    simp only [Bool.and_eq_true, decide_eq_true_eq]
    exact ⟨⟨hacts _ k5, by have := k4.1; omega⟩, by omega⟩
end Go.Proofs.YtkdgcdcakioajaaGreatDoor
