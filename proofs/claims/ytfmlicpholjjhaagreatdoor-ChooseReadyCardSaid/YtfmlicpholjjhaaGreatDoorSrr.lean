/- The contracts of enter's small functions: bit, isHistory, has, members, of: what a state stands for. -/
import Derived.Test.YtfmlicpholjjhaaGreatDoorTnw
import Derived.Test.YtfmlicpholjjhaaGreatDoorSpure
import Derived.Test.YtfmlicpholjjhaaGreatDoorDrw
namespace Go.Proofs.YtfmlicpholjjhaaGreatDoor
open Go.ChangeShapes Go.WideShapes Go.ChangeAt Go.RowKit
set_option linter.unusedVariables false

/-- a row of sets -/
def U32At (w : World) (b o : Nat) (x : Nat) : Prop := w.cell? ⟨b, o, none⟩ = some (.int .u32 (x : Int)) ∧ x < 4294967296
theorem U32At.keeps : Keeps U32At := fun w w' b o x hb hlt h => ⟨(hb.cell (p := ⟨b, o, none⟩) hlt).trans h.1, h.2⟩
def HistAt (w : World) (v : Value) (H : List Nat) : Prop := RowsAt 1 U32At w v H
theorem HistAt.below {w w' : World} {v : Value} {H : List Nat} (h : HistAt w v H) (hb : Below w.heap.size w w') : HistAt w' v H := RowsAt.below U32At.keeps h hb
theorem and_bit (n k : Nat) (hn : n < 4294967296) (hk : k ≤ 31) : bits .and .u32 (n : Int) ((2 : Int) ^ k) = if bitN n k = true then ((2 : Int) ^ k) else 0 := by
  have h1 : 2 ^ k < 2 ^ 32 := Nat.pow_lt_pow_right (by decide) (by omega)
  have h2 : ((2 : Int) ^ k) = ((2 ^ k : Nat) : Int) := by simp
  have h3 : n &&& 2 ^ k = if bitN n k = true then 2 ^ k else 0 := by
    refine Nat.eq_of_testBit_eq fun i => ?_
    rw [Nat.testBit_and, Nat.testBit_two_pow]
    unfold bitN
    rw [← Nat.testBit_eq_decide_div_mod_eq]
    by_cases hi : k = i
    · subst hi
      cases n.testBit k <;> simp
    · cases n.testBit k <;> simp [hi]
  rw [h2, (bits_nat .u32 32 (by decide) wrap_u32 _ _ hn h1).1, h3]
  split <;> rfl
def membU (P : Nat → Bool) (k : Nat) : List Int := ((List.range k).filter P).map fun j : Nat => (j : Int)
theorem membU_succ (P : Nat → Bool) (k : Nat) : membU P (k + 1) = membU P k ++ if P k = true then [(k : Int)] else [] := by
  unfold membU
  rw [List.range_succ, List.filter_append, List.map_append]
  by_cases h : P k = true
  · simp [h]
  · simp [h]
theorem membU_len (P : Nat → Bool) (k : Nat) : (membU P k).length ≤ k := by
  unfold membU
  rw [List.length_map]
  simpa using List.length_filter_le P (List.range k)
end Go.Proofs.YtfmlicpholjjhaaGreatDoor
/- The contracts of enter's of and real, and of standInsOf: what Targets really are. -/
namespace Go.Proofs.YtfmlicpholjjhaaGreatDoor
open Go.ChangeShapes Go.WideShapes Go.ChangeAt Go.RowKit
set_option linter.unusedVariables false

/-- a row of numbers, in blocks that K tells -/
def LiAt (K : Nat → Prop) (w : World) (v : Value) (L : List Int) : Prop := RowsAt 1 (fun w b o x => IntAt w b o x ∧ K b) w v L
theorem LiAt.list {K : Nat → Prop} {w : World} {v : Value} {L : List Int} (h : LiAt K w v L) : ListAt w v L := by
  obtain ⟨A, cap, hv, hc, hi⟩ := h
  refine ⟨A, cap, hv, hc, fun i x hx => ?_⟩
  obtain ⟨b, o, h1, h2, h3⟩ := hi i x hx
  exact ⟨b, o, h1, h2, h3.1⟩
theorem LiAt.mono {K K' : Nat → Prop} {w : World} {v : Value} {L : List Int} (h : LiAt K w v L) (hK : ∀ b, b < w.heap.size → K b → K' b) : LiAt K' w v L := by
  obtain ⟨A, cap, hv, hc, hi⟩ := h
  refine ⟨A, cap, hv, hc, fun i x hx => ?_⟩
  obtain ⟨b, o, h1, h2, h3⟩ := hi i x hx
  exact ⟨b, o, h1, h2, h3.1, hK b h2 h3.2⟩
theorem LiAt.grown {K : Nat → Prop} {w w' : World} {row : Option Nat} {v : Value} {L : List Int} (h : LiAt K w v L) (hg : w.grownBy w' row) (hK : ∀ b, b < w.heap.size → K b → some b ≠ row) : LiAt K w' v L := by
  obtain ⟨A, cap, hv, hc, hi⟩ := h
  refine ⟨A, cap, hv, hc, fun i x hx => ?_⟩
  obtain ⟨b, o, h1, h2, h3⟩ := hi i x hx
  exact ⟨b, o, h1, Nat.lt_of_lt_of_le h2 hg.size, (World.cell?_of_block (hg.block b h2 (hK b h2 h3.2))).trans h3.1, h3.2⟩
theorem LiAt.below {K : Nat → Prop} {w w' : World} {v : Value} {L : List Int} (h : LiAt K w v L) (hb : Below w.heap.size w w') : LiAt K w' v L := h.grown (only_of_below hb none) (fun _ _ _ h => by cases h)
theorem LiAt.of_list {K : Nat → Prop} {w : World} {v : Value} {L : List Int} (h : ListAt w v L) (hK : ∀ b, b < w.heap.size → K b) : LiAt K w v L := by
  obtain ⟨A, cap, hv, hc, hi⟩ := h
  refine ⟨A, cap, hv, hc, fun i x hx => ?_⟩
  obtain ⟨b, o, h1, h2, h3⟩ := hi i x hx
  exact ⟨b, o, h1, h2, h3, hK b h2⟩
theorem LiAt.of_own {K : Nat → Prop} {w : World} {B : Nat} {v : Value} {L : List Int} (h : w.ownsRow B 3 1 v L.length (intVals L)) (hK : ∀ b, B ≤ b → K b) : LiAt K w v L := by
  have h' := h
  rcases h.2 with ⟨h1, h0⟩ | ⟨g, cap, cur, rfl, hge, hgt, hcap, _⟩
  · obtain rfl : L = [] := List.eq_nil_of_length_eq_zero h0
    rw [h1]
    exact RowsAt.nil w
  · refine ⟨_, cap, rfl, hcap, fun i x hx => ⟨g, 0, rfl, (h'.lt g rfl).2, ?_, hK g hge⟩⟩
    show w.cell? ⟨g, 0 + i * 1, none⟩ = _
    rw [Nat.zero_add, Nat.mul_one]
    exact own_cell h' i _ (by simp [intVals, hx])
/-- a row of numbers is told, in old blocks (below n) or in new ones -/
def IntsPost (n : Nat) (L : List Int) (w : World) (e : Ending) (w' : World) : Prop := Below w.heap.size w w' ∧ ∃ v, e = .returned v ∧ LiAt (fun b => b < n ∨ w.heap.size ≤ b) w' v L
theorem KPost.ints {n : Nat} {L : List Int} {w w' : World} {e : Ending} (h : KPost L w e w') : IntsPost n L w e w' := by
  obtain ⟨h1, v, h2, h3⟩ := h
  exact ⟨h1, v, h2, LiAt.of_own h3 fun b hb => .inr hb⟩
theorem StsAt.st {w : World} {vs : Value} {S : List St} (h : StsAt w vs S) {k : Nat} (hk : k < S.length) :
    ∃ (b o cap : Nat) (vi ve vx : Value), vs = .slice (some ⟨b, o, none⟩) S.length cap ∧ S.length ≤ cap ∧ b < w.heap.size ∧ StC w b (o + k * 5) (stAt S (k : Int)) vi ve vx ∧ StHas w vi ve vx (stAt S (k : Int)) :=
  ChHas.st (vt := .slice none 0 0) (C := ⟨0, S, []⟩) ⟨h, RowsAt.nil w⟩ hk
theorem HistAt.at {w : World} {v : Value} {H : List Nat} (h : HistAt w v H) {k : Nat} (hk : k < H.length) :
    ∃ (b o cap : Nat), v = .slice (some ⟨b, o, none⟩) H.length cap ∧ H.length ≤ cap ∧ b < w.heap.size ∧ w.cell? ⟨b, o + k, none⟩ = some (.int .u32 (histAt H (k : Int) : Int)) ∧ histAt H (k : Int) < 4294967296 := by
  obtain ⟨A, cap, hv, hc, hi⟩ := h
  obtain ⟨b, o, hA, hlt, h0, h1⟩ := hi k _ (List.getElem?_eq_getElem hk)
  have he : histAt H (k : Int) = H[k] := by unfold histAt; simp [List.getD, List.getElem?_eq_getElem hk]
  rw [he]
  exact ⟨b, o, cap, by rw [hv, hA], hc, hlt, by rwa [Nat.mul_one] at h0, h1⟩
theorem one_list {w : World} {x : Int} (g : Nat) (h : Blk w g 3 #[.int .i64 x]) : ListAt w (.slice (some ⟨g, 0, none⟩) 1 1) [x] := by
  refine ⟨_, 1, rfl, Nat.le_refl _, fun i y hi => ?_⟩
  have hlt := (List.getElem?_eq_some_iff.1 hi).1
  simp at hlt
  subst hlt
  simp at hi
  subst hi
  exact ⟨g, 0, rfl, h.lt, h.cell 0⟩
theorem LiAt.of_list' {n m g : Nat} {w : World} {x : Int} {c : Nat} (h : ListAt w (.slice (some ⟨g, 0, none⟩) 1 c) [x]) (hm : m ≤ g) : LiAt (fun b => b < n ∨ m ≤ b) w (.slice (some ⟨g, 0, none⟩) 1 c) [x] := by
  obtain ⟨A, cap, hv, hc, hi⟩ := h
  injection hv with e1 e2 e3
  refine ⟨A, cap, by rw [e1, e3]; rfl, hc, fun i y hy => ?_⟩
  obtain ⟨b, o, h1, h2, h3⟩ := hi i y hy
  rw [h1] at e1
  injection e1 with e1
  injection e1 with e4 e5
  exact ⟨b, o, h1, h2, h3, .inr (by omega)⟩
theorem LiAt.below0 {K : Nat → Prop} {w0 w w' : World} {v : Value} {L : List Int} (h : LiAt K w0 v L) (h0 : Below w0.heap.size w0 w) (hb : Below w.heap.size w w') : LiAt K w' v L := (h.below h0).below hb
end Go.Proofs.YtfmlicpholjjhaaGreatDoor
/- The contracts of tree's Up and Kids; sets as bits. -/
namespace Go.Proofs.YtfmlicpholjjhaaGreatDoor
open Go.ChangeShapes Go.WideShapes Go.ChangeAt Go.RowKit
set_option linter.unusedVariables false

theorem upsF_none (S : List St) (n : Nat) {q : Int} (h : q < 0) : upsF S n q = [] := by
  cases n with
  | zero => rfl
  | succ n => rw [upsF, if_pos h]
theorem upsF_fuel (S : List St) : ∀ (n m : Nat) (p : Int), (p + 1).toNat ≤ n → (p + 1).toNat ≤ m → upsF S n p = upsF S m p
  | 0, 0, _, _, _ => rfl
  | 0, m + 1, p, h1, _ => by rw [upsF, upsF, if_pos (by omega)]
  | n + 1, 0, p, _, h2 => by rw [upsF, upsF, if_pos (by omega)]
  | n + 1, m + 1, p, h1, h2 => by
    rw [upsF, upsF]
    by_cases hp : p < 0
    · rw [if_pos hp, if_pos hp]
    · have := cUp_step S p (by omega)
      rw [if_neg hp, if_neg hp, upsF_fuel S n m (cUp S p) (by omega) (by omega)]
theorem ups_len (S : List St) : ∀ (n : Nat) (p : Int), (upsF S n p).length ≤ (p + 1).toNat
  | 0, p => by simp [upsF]
  | n + 1, p => by
    rw [upsF]
    by_cases hp : p < 0
    · rw [if_pos hp]; simp
    · rw [if_neg hp, List.length_cons]
      have := cUp_step S p (by omega)
      have := ups_len S n (cUp S p)
      omega
theorem ups_short (S : List St) (s : Int) : (ups S s).length ≤ S.length := by
  have h := ups_len S (s.toNat + 1) (cUp S s)
  have := cUp_lt S s
  have := cUp_ge S s
  unfold ups
  omega
set_option maxHeartbeats 1000000 in
set_option maxRecDepth 100000 in
theorem upsT_any (g : Nat) (s : Int) (C : Ch) (w : World) (hT : TreeAt w g C) (hl : C.sts.length ≤ 1000) (hR : Rooted C.sts) :
    Calls Tryz.prog 26 #[.pointer (some ⟨g, 0, none⟩), .int .i64 s] w (KPost (ups C.sts s) w) := by
  obtain ⟨i0, hi, hz0, hz1, hz2⟩ := info_parts Tryz.info3
  have HI := Lib.hid hi
  have HZ0 := Lib.hid hz0
  have HZ1 := Lib.hid hz1
  have HZ2 := Lib.hid hz2
  clear hi hz0 hz1 hz2
  have HA := Lib.hid (fun (W : World) (h : Below w.heap.size w W) (s : Int) => parent_any g s C W (hT.below h) hl)
  have HRT := Lib.hid hR
  have hsh := ups_short C.sts s
  have h0 : ups C.sts s = upsF C.sts (s.toNat + 1) (cUp C.sts s) := rfl
  have hge := cUp_ge C.sts s
  have hle := cUp_le C.sts s
  have hpos : (cUp C.sts s + 1).toNat ≤ s.toNat + 1 := by rcases hle with h | h <;> omega
  have HUP := Lib.hid (fun q => cUp_step C.sts q)
  have HGE := Lib.hid (fun q => cUp_ge C.sts q)
  generalize ups C.sts s = R at *
  have H0 := Lib.hid h0
  clear h0 hT hle hR
  go_enter Tryz.func26, Tryz.ntmps26
  go_wp2_with fail
  refine (HA.out _ (Below.refl _ _) s).mono ?_
  rintro e w1 ⟨rfl, rfl⟩
  rw [HRT.out s]
  generalize cUp C.sts s = u at *
  go_wp2_with fail
  go_loopw [5, 6] (fun v p wr => ∃ (n : Nat) (q : Int) (done : List Int), -1 ≤ q ∧ (q + 1).toNat ≤ n ∧ p = .int .i64 q ∧ Hid (R = done ++ upsF C.sts n q) ∧ Below w.heap.size w wr ∧ Hid (wr.ownsRow w.heap.size 3 1 v done.length (intVals done))) (fun _ p _ => (intOf p + 1).toNat)
  case atStart => exact ⟨s.toNat + 1, u, [], hge, hpos, rfl, by rw [H0.out]; exact Lib.hid rfl, Below.refl _ _, Lib.hid (World.ownsRow_nil _ _ _ _)⟩
  case round =>
    obtain ⟨n, q, done, hq1, hn, rfl, HR, hb, hown⟩ := hrel
    have HB := Lib.hid hb
    clear hb
    by_cases hq : q = -1
    · have hR := HR.out
      rw [upsF_none C.sts n (by omega), List.append_nil] at hR
      have HRR := Lib.hid hR
      subst hq
      clear hR
      go_wp2_with fail
      go_ret
      exact ⟨HB.out, _, rfl, by rw [HRR.out]; exact hown.out⟩
    · obtain ⟨m, rfl⟩ : ∃ m, n = m + 1 := ⟨n - 1, by omega⟩
      have hR := HR.out
      rw [upsF, if_neg (by omega), List.append_cons] at hR
      have hdl : done.length ≤ 1000 := by have := congrArg List.length hR; simp at this; omega
      have HRR := Lib.hid hR
      have hq2 : (q != -1) = true := by simpa using hq
      have hst := HUP.out q (by omega)
      have hg2 := HGE.out q
      have hbs := HB.out.size
      clear hR
      go_wp2_with (at_builtin; refine wpList_append_own_at _ rfl _ _ 37 rfl (w.heap.size) 3 i0 (.int .i64 0) 1 8 Tryz.underlying37 HI.out HZ0.out HZ1.out HZ2.out rfl (by decide) _ _ _ rfl (hown.out.alloc _) ⟨wr.heap.size, 0, none⟩ 1 1 [.int .i64 q] rfl rfl ?c1 ?c2 ?c3 ?c4 ?c5 ?_)
      case c1 => exact new_val _ _ _ _ (by simp)
      case c2 => exact int_one _
      case c3 => unfold maxLen; omega
      case c4 => omega
      case c5 => simp; omega
      intro v' w2 hown' hgrow _ _
      have HG := Lib.hid (Below.grown (HB.out.alloc HB.out.size _) hgrow (by simp; omega) (fun g hg => by have := (hown.out.lt g hg).1; simpa using this))
      have HO' := Lib.hid hown'
      clear hown' hgrow
      go_wp2_with fail
      refine (HA.out _ HG.out q).mono ?_
      rintro e w3 ⟨rfl, rfl⟩
      rw [HRT.out q]
      generalize cUp C.sts q = u2 at *
      go_wp2
      go_roundw
      case rel => exact ⟨m, u2, done ++ [q], hg2, by omega, rfl, HRR, HG.out, Lib.hid (by rw [intVals_snoc]; simpa using HO'.out)⟩
      case measure => simp [intOf]; omega
/-! ### sets as bits -/
theorem bset_test (P : Nat → Bool) (n i : Nat) : (bset P n).testBit i = (decide (i < n) && P i) := by
  by_cases h : i < n
  · rw [Nat.testBit_eq_decide_div_mod_eq, bset_bit P n i h]
    cases P i <;> simp [h]
  · rw [Nat.testBit_lt_two_pow (Nat.lt_of_lt_of_le (bset_lt P n) (Nat.pow_le_pow_right (by decide) (by omega)))]
    simp [h]
theorem bset_add (P : Nat → Bool) (n k : Nat) (hk : k < n) : bset P n ||| 2 ^ k = bset (addS P (k : Int)) n := by
  refine Nat.eq_of_testBit_eq fun i => ?_
  rw [Nat.testBit_or, bset_test, bset_test, Nat.testBit_two_pow]
  unfold addS
  by_cases hi : k = i
  · subst hi; simp [hk]
  · have : ¬ ((i : Int) = (k : Int)) := by omega
    simp [hi, this]
theorem bset_and (P Q : Nat → Bool) (n : Nat) : bset P n &&& bset Q n = bset (fun x => P x && Q x) n := by
  refine Nat.eq_of_testBit_eq fun i => ?_
  rw [Nat.testBit_and, bset_test, bset_test, bset_test]
  cases decide (i < n) <;> cases P i <;> cases Q i <;> rfl
theorem bset_zero (P : Nat → Bool) (n : Nat) : bset P n = 0 ↔ ((List.range n).any P) = false := by
  constructor
  · intro h
    rw [List.any_eq_false]
    intro i hi
    have := bset_test P n i
    rw [h] at this
    have hlt := List.mem_range.1 hi
    simp [hlt] at this
    simp [this]
  · intro h
    rw [List.any_eq_false] at h
    refine Nat.eq_of_testBit_eq fun i => ?_
    rw [bset_test, Nat.zero_testBit]
    by_cases hi : i < n
    · have := h i (List.mem_range.2 hi)
      simp at this
      simp [this]
    · simp [hi]
theorem bset_u32 (P : Nat → Bool) {n : Nat} (hn : n ≤ 31) : bset P n < 4294967296 := Nat.lt_of_lt_of_le (bset_lt P n) (Nat.pow_le_pow_right (n := 2) (by decide) (show n ≤ 32 by omega))
theorem or_add (P : Nat → Bool) (n k : Nat) (hn : n ≤ 31) (hk : k < n) : bits .or .u32 ((bset P n : Nat) : Int) ((2 : Int) ^ k) = ((bset (addS P (k : Int)) n : Nat) : Int) := by
  have h1 : 2 ^ k < 2 ^ 32 := Nat.pow_lt_pow_right (by decide) (by omega)
  have h2 : ((2 : Int) ^ k) = ((2 ^ k : Nat) : Int) := by simp
  rw [h2, (bits_nat .u32 32 (by decide) wrap_u32 _ _ (bset_u32 P hn) h1).2, bset_add P n k hk]
theorem bset_memb (S : List St) (P : Nat → Bool) : memb S (bitN (bset P S.length)) = membU P S.length := by
  unfold memb membU
  congr 1
  refine List.filter_congr fun i hi => ?_
  have hlt := List.mem_range.1 hi
  unfold bitN
  rw [bset_bit P _ i hlt]
  cases P i <;> simp
theorem and_test (P : Nat → Bool) (n k : Nat) (hn : n ≤ 31) (hk : k < n) : (bits .and .u32 ((bset P n : Nat) : Int) ((2 : Int) ^ k) == 0) = !P k ∧ (bits .and .u32 ((bset P n : Nat) : Int) ((2 : Int) ^ k) != 0) = P k := by
  have hb : bitN (bset P n) k = P k := by
    unfold bitN
    rw [bset_bit P n k hk]
    cases P k <;> simp
  have hpw : ¬ ((2 : Int) ^ k = 0) := by
    have h2 : ((2 : Int) ^ k) = ((2 ^ k : Nat) : Int) := by simp
    rw [h2]
    have := Nat.pow_pos (n := k) (show 0 < 2 by decide)
    omega
  rw [and_bit _ k (bset_u32 P hn) (by omega), hb]
  cases P k
  · exact ⟨rfl, rfl⟩
  · rw [if_pos rfl]
    exact ⟨beq_false_of_ne hpw, bne_iff_ne.2 hpw⟩
end Go.Proofs.YtfmlicpholjjhaaGreatDoor
/- The contracts of enter's real and standInsOf. -/
namespace Go.Proofs.YtfmlicpholjjhaaGreatDoor
open Go.ChangeShapes Go.WideShapes Go.ChangeAt Go.RowKit
set_option linter.unusedVariables false

theorem drop_fold {α β : Type} (G : β → α → β) (l : List α) (k : Nat) (h : k < l.length) (b : β) : (l.drop k).foldl G b = (l.drop (k + 1)).foldl G (G b l[k]) := by
  rw [List.drop_eq_getElem_cons h, List.foldl_cons]
theorem field_ch1 (a b c : Value) (w : World) : Sem.run Tryz.prog (Instr.field 25 (.agg #[a, b, c]) 1) w = .ok b w := by
  unfold Instr.field
  have h := Tryz.underlying25
  simp [go_sem, asAgg]
end Go.Proofs.YtfmlicpholjjhaaGreatDoor
/- The contracts of the document's There, Stands, Up and Bits. -/
namespace Go.Proofs.YtfmlicpholjjhaaGreatDoor
open Go.ChangeShapes Go.WideShapes Go.ChangeAt Go.RowKit
set_option linter.unusedVariables false

/-! ### all that a state is in -/
def dnF (S : List St) (s : Int) : Nat → List Int
  | 0 => []
  | m + 1 => (if cIn S s (m : Int) = true then [(m : Int)] else []) ++ dnF S s m
theorem dn_skip (S : List St) (s : Int) (a : Nat) : ∀ m : Nat, a ≤ m → (∀ y : Nat, a ≤ y → y < m → cIn S s (y : Int) = false) → dnF S s m = dnF S s a
  | 0, h, _ => by obtain rfl : a = 0 := by omega
                  rfl
  | m + 1, h, hy => by
    by_cases he : a = m + 1
    · rw [he]
    · rw [dnF, if_neg (by rw [hy m (by omega) (by omega)]; simp), List.nil_append]
      exact dn_skip S s a m (by omega) fun y h1 h2 => hy y h1 (by omega)
theorem dn_cong (S : List St) (s s' : Int) : ∀ m : Nat, (∀ y : Nat, y < m → cIn S s (y : Int) = cIn S s' (y : Int)) → dnF S s m = dnF S s' m
  | 0, _ => rfl
  | m + 1, h => by rw [dnF, dnF, h m (by omega), dn_cong S s s' m fun y hy => h y (by omega)]
theorem dn_ups (S : List St) : ∀ (n : Nat) (s : Int), s.toNat ≤ n → dnF S s s.toNat = ups S s
  | n, s, hn => by
    unfold ups
    rw [upsF]
    by_cases hp : cUp S s < 0
    · rw [if_pos hp, dn_skip S s 0 _ (Nat.zero_le _) fun y _ _ => by rw [cIn_up, if_pos hp]]
      rfl
    · rw [if_neg hp]
      obtain ⟨p1, p2, p3⟩ := cUp_pos (S := S) (s := s) (by omega)
      obtain ⟨q, hq⟩ : ∃ q : Nat, cUp S s = (q : Int) := ⟨(cUp S s).toNat, by omega⟩
      have hqs : q + 1 ≤ s.toNat := by omega
      rw [hq]
      rw [dn_skip S s (q + 1) _ hqs fun y h1 h2 => by
        rw [cIn_up, hq, if_neg (by omega), if_neg (by omega), Bool.eq_false_iff]
        intro hc
        have := cIn_range hc
        omega]
      rw [dnF, if_pos (by rw [cIn_up, hq, if_neg (by omega), if_pos rfl])]
      rw [dn_cong S s (q : Int) q fun y hy => by rw [cIn_up S s, hq, if_neg (by omega), if_neg (by omega)]]
      cases n with
      | zero => omega
      | succ n =>
        have ih := dn_ups S n (q : Int) (by omega)
        rw [show ((q : Int)).toNat = q by omega] at ih
        rw [ih]
        unfold ups
        rw [upsF_fuel S s.toNat ((q : Int).toNat + 1) (cUp S (q : Int)) (by rcases cUp_le S (q : Int) with h | h <;> omega) (by rcases cUp_le S (q : Int) with h | h <;> omega)]
        rfl
set_option maxHeartbeats 2000000 in
set_option maxRecDepth 100000 in
theorem rups_any (vr : Int) (vs vt : Value) (C : Ch) (k : Nat) (w : World) (hC : ChHas w vs vt C) (hl : C.sts.length ≤ 1000) (hk : k < C.sts.length) :
    Calls Tryz.prog 29 #[.agg #[.int .i64 vr, vs, vt], .int .i64 (k : Int)] w (KPost (ups C.sts (k : Int)) w) := by
  obtain ⟨i0, hi, hz0, hz1, hz2⟩ := info_parts Tryz.info3
  have HI := Lib.hid hi
  have HZ0 := Lib.hid hz0
  have HZ1 := Lib.hid hz1
  have HZ2 := Lib.hid hz2
  clear hi hz0 hz1 hz2
  have HIN := Lib.hid (fun (W : World) (h : Below (w.alloc (chBox vr vs vt)).heap.size (w.alloc (chBox vr vs vt)) W) (b : Int) => rIn_any vr b vs vt C (by unfold Short; omega) _ (k : Int) W (Nat.le_refl _) (hC.below (below_boxed h)))
  have HR := Lib.hid (show ups C.sts (k : Int) = dnF C.sts (k : Int) k from (dn_ups C.sts _ (k : Int) (Nat.le_refl _)).symm)
  generalize ups C.sts (k : Int) = R at *
  have hsh : ∀ m, (dnF C.sts (k : Int) m).length ≤ m := by
    intro m
    induction m with
    | zero => simp [dnF]
    | succ m ih => rw [dnF, List.length_append]; split <;> simp <;> omega
  have HSH := Lib.hid hsh
  clear hC hsh
  go_enter Tryz.func29, Tryz.ntmps29
  go_wp2_with fail
  go_loopw [5, 6] (fun v p wr => ∃ (m : Nat) (done : List Int), m ≤ k ∧ done.length + m ≤ k ∧ p = .int .i64 ((m : Int) - 1) ∧ Hid (R = done ++ dnF C.sts (k : Int) m) ∧ Below (w.alloc (chBox vr vs vt)).heap.size (w.alloc (chBox vr vs vt)) wr ∧ Hid (wr.ownsRow (w.heap.size + 1) 3 1 v done.length (intVals done))) (fun _ p _ => (intOf p + 1).toNat)
  case atStart => exact ⟨k, [], Nat.le_refl _, by simp, by go_num, HR, Below.refl _ _, Lib.hid (World.ownsRow_nil _ _ _ _)⟩
  case round =>
    clear HR
    obtain ⟨m, done, hm, hdl, rfl, HR, hb, hown⟩ := hrel
    obtain ⟨wo, rfl⟩ : ∃ wo : World, wo = wr := ⟨_, rfl⟩
    obtain ⟨x0, x1, x2⟩ := box_later hb
    have HB := Lib.hid hb
    clear hb
    by_cases h0 : m = 0
    · subst h0
      have hR := HR.out
      rw [dnF, List.append_nil] at hR
      have HRR := Lib.hid hR
      clear hR
      go_wp2_with fail
      go_ret
      exact ⟨below_boxed HB.out, _, rfl, by rw [HRR.out]; exact own_lower hown.out (by omega)⟩
    · obtain ⟨j, rfl⟩ : ∃ j, m = j + 1 := ⟨m - 1, by omega⟩
      have hR := HR.out
      rw [dnF, ← List.append_assoc] at hR
      have e1 : ((j + 1 : Nat) : Int) - 1 = (j : Int) := by omega
      rw [e1]
      have hge : decide (0 ≤ (j : Int)) = true := by simp
      have HO := Lib.hid (HIN.out wo HB.out (j : Int))
      cases hc : cIn C.sts (k : Int) (j : Int) with
      | true =>
        rw [hc] at HO
        rw [hc, if_pos rfl] at hR
        have HRR := Lib.hid hR
        clear hR hc
        go_wp2_with fail
        refine HO.out.mono ?_
        rintro e w1 ⟨rfl, hb1⟩
        have HB1 := Lib.hid (HB.out.trans (hb1.mono HB.out.size))
        have HOW := Lib.hid (own_below hown.out hb1)
        have hbs : w.heap.size + 1 ≤ w1.heap.size := by have := HB1.out.size; simpa using this
        clear hb1
        go_wp2_with (at_builtin; refine wpList_append_own_at _ rfl _ _ 37 rfl (w.heap.size + 1) 3 i0 (.int .i64 0) 1 8 Tryz.underlying37 HI.out HZ0.out HZ1.out HZ2.out rfl (by decide) _ _ _ rfl (HOW.out.alloc _) ⟨w1.heap.size, 0, none⟩ 1 1 [.int .i64 (j : Int)] rfl rfl ?c1 ?c2 ?c3 ?c4 ?c5 ?_)
        case c1 => exact new_val _ _ _ _ (by simp)
        case c2 => exact int_one _
        case c3 => unfold maxLen; omega
        case c4 => omega
        case c5 => simp; omega
        intro v' w2 hown' hgrow _ _
        have HG := Lib.hid (Below.grown (HB1.out.alloc HB1.out.size _) hgrow (by simp; omega) (fun g hg => by have := (HOW.out.lt g hg).1; simpa using this))
        have HO' := Lib.hid hown'
        clear hown' hgrow
        go_wp2
        go_roundw
        case rel => exact ⟨j, done ++ [(j : Int)], by omega, by simp; omega, by go_num, HRR, HG.out, Lib.hid (by rw [intVals_snoc]; simpa using HO'.out)⟩
        case measure => simp [intOf]
      | false =>
        rw [hc] at HO
        rw [hc, if_neg (by simp), List.append_nil] at hR
        have HRR := Lib.hid hR
        clear hR hc
        go_wp2_with fail
        refine HO.out.mono ?_
        rintro e w1 ⟨rfl, hb1⟩
        have HB1 := Lib.hid (HB.out.trans (hb1.mono HB.out.size))
        have HOW := Lib.hid (own_below hown.out hb1)
        clear hb1
        go_wp2_with fail
        go_roundw
        case rel => exact ⟨j, done, by omega, by omega, by go_num, HRR, HB1.out, HOW⟩
        case measure => simp [intOf]
end Go.Proofs.YtfmlicpholjjhaaGreatDoor
namespace Go.Proofs.YtfmlicpholjjhaaGreatDoor
theorem take_has (acc : List Int) (x : Int) {j : Nat} (h : j < acc.length) : (acc.take (j + 1)).contains x = ((acc.take j).contains x || acc[j] == x) := by
  rw [List.take_succ_eq_append_getElem h, Bool.eq_iff_iff]
  simp only [List.contains_iff_mem, List.mem_append, List.mem_singleton, Bool.or_eq_true, beq_iff_eq]
  constructor
  · rintro (h | h)
    · exact .inl h
    · exact .inr h.symm
  · rintro (h | h)
    · exact .inl h
    · exact .inr h.symm
end Go.Proofs.YtfmlicpholjjhaaGreatDoor
