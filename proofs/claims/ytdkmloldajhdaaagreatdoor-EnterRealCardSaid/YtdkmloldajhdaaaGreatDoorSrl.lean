/- The contracts of tree's Up and Kids; sets as bits. -/
import Derived.Test.YtdkmloldajhdaaaGreatDoorSof
namespace Go.Proofs.YtdkmloldajhdaaaGreatDoor
open Go.ChangeShapes Go.WideShapes Go.ChangeAt Go.RowKit
set_option linter.unusedVariables false

theorem upsF_none (S : List St) (n : Nat) {q : Int} (h : q < 0) : upsF S n q = [] := by
  cases n with
  | zero => rfl
  | succ n => rw [upsF, if_pos h]
theorem upsF_fuel (S : List St) : ∀ (n m : Nat) (p : Int), (p + 1).toNat ≤ n → (p + 1).toNat ≤ m → upsF S n p = upsF S m p
  | 0, 0, _, _, _ => rfl
  | 0, m + 1, p, h1, _ => by rw [upsF, upsF, if_pos (by omega)]
  | n + 1, 0, p, _, h2 => by rw [upsF, upsF, if_pos (by omega)]
  | n + 1, m + 1, p, h1, h2 => by
    rw [upsF, upsF]
    by_cases hp : p < 0
    · rw [if_pos hp, if_pos hp]
    · have := cUp_step S p (by omega)
      rw [if_neg hp, if_neg hp, upsF_fuel S n m (cUp S p) (by omega) (by omega)]
theorem ups_len (S : List St) : ∀ (n : Nat) (p : Int), (upsF S n p).length ≤ (p + 1).toNat
  | 0, p => by simp [upsF]
  | n + 1, p => by
    rw [upsF]
    by_cases hp : p < 0
    · rw [if_pos hp]; simp
    · rw [if_neg hp, List.length_cons]
      have := cUp_step S p (by omega)
      have := ups_len S n (cUp S p)
      omega
theorem ups_short (S : List St) (s : Int) : (ups S s).length ≤ S.length := by
  have h := ups_len S (s.toNat + 1) (cUp S s)
  have := cUp_lt S s
  have := cUp_ge S s
  unfold ups
  omega
set_option maxHeartbeats 1000000 in
set_option maxRecDepth 100000 in
theorem upsT_any (g : Nat) (s : Int) (C : Ch) (w : World) (hT : TreeAt w g C) (hl : C.sts.length ≤ 1000) (hR : Rooted C.sts) :
    Calls Tryz.prog 48 #[.pointer (some ⟨g, 0, none⟩), .int .i64 s] w (KPost (ups C.sts s) w) := by
  obtain ⟨i0, hi, hz0, hz1, hz2⟩ := info_parts Tryz.info3
  have HI := Lib.hid hi
  have HZ0 := Lib.hid hz0
  have HZ1 := Lib.hid hz1
  have HZ2 := Lib.hid hz2
  clear hi hz0 hz1 hz2
  have HA := Lib.hid (fun (W : World) (h : Below w.heap.size w W) (s : Int) => parent_any g s C W (hT.below h) hl)
  have HRT := Lib.hid hR
  have hsh := ups_short C.sts s
  have h0 : ups C.sts s = upsF C.sts (s.toNat + 1) (cUp C.sts s) := rfl
  have hge := cUp_ge C.sts s
  have hle := cUp_le C.sts s
  have hpos : (cUp C.sts s + 1).toNat ≤ s.toNat + 1 := by rcases hle with h | h <;> omega
  have HUP := Lib.hid (fun q => cUp_step C.sts q)
  have HGE := Lib.hid (fun q => cUp_ge C.sts q)
  generalize ups C.sts s = R at *
  have H0 := Lib.hid h0
  clear h0 hT hle hR
  go_enter Tryz.func48, Tryz.ntmps48
  go_wp2_with fail
  refine (HA.out _ (Below.refl _ _) s).mono ?_
  rintro e w1 ⟨rfl, rfl⟩
  rw [HRT.out s]
  generalize cUp C.sts s = u at *
  go_wp2_with fail
  go_loopw [5, 6] (fun v p wr => ∃ (n : Nat) (q : Int) (done : List Int), -1 ≤ q ∧ (q + 1).toNat ≤ n ∧ p = .int .i64 q ∧ Hid (R = done ++ upsF C.sts n q) ∧ Below w.heap.size w wr ∧ Hid (wr.ownsRow w.heap.size 3 1 v done.length (intVals done))) (fun _ p _ => (intOf p + 1).toNat)
  case atStart => exact ⟨s.toNat + 1, u, [], hge, hpos, rfl, by rw [H0.out]; exact Lib.hid rfl, Below.refl _ _, Lib.hid (World.ownsRow_nil _ _ _ _)⟩
  case round =>
    obtain ⟨n, q, done, hq1, hn, rfl, HR, hb, hown⟩ := hrel
    have HB := Lib.hid hb
    clear hb
    by_cases hq : q = -1
    · have hR := HR.out
      rw [upsF_none C.sts n (by omega), List.append_nil] at hR
      have HRR := Lib.hid hR
      subst hq
      clear hR
      go_wp2_with fail
      go_ret
      exact ⟨HB.out, _, rfl, by rw [HRR.out]; exact hown.out⟩
    · obtain ⟨m, rfl⟩ : ∃ m, n = m + 1 := ⟨n - 1, by omega⟩
      have hR := HR.out
      rw [upsF, if_neg (by omega), List.append_cons] at hR
      have hdl : done.length ≤ 1000 := by have := congrArg List.length hR; simp at this; omega
      have HRR := Lib.hid hR
      have hq2 : (q != -1) = true := by simpa using hq
      have hst := HUP.out q (by omega)
      have hg2 := HGE.out q
      have hbs := HB.out.size
      clear hR
      go_wp2_with (at_builtin; refine wpList_append_own_at _ rfl _ _ 27 rfl (w.heap.size) 3 i0 (.int .i64 0) 1 8 Tryz.underlying27 HI.out HZ0.out HZ1.out HZ2.out rfl (by decide) _ _ _ rfl (hown.out.alloc _) ⟨wr.heap.size, 0, none⟩ 1 1 [.int .i64 q] rfl rfl ?c1 ?c2 ?c3 ?c4 ?c5 ?_)
      case c1 => exact new_val _ _ _ _ (by simp)
      case c2 => exact int_one _
      case c3 => unfold maxLen; omega
      case c4 => omega
      case c5 => simp; omega
      intro v' w2 hown' hgrow _ _
      have HG := Lib.hid (Below.grown (HB.out.alloc HB.out.size _) hgrow (by simp; omega) (fun g hg => by have := (hown.out.lt g hg).1; simpa using this))
      have HO' := Lib.hid hown'
      clear hown' hgrow
      go_wp2_with fail
      refine (HA.out _ HG.out q).mono ?_
      rintro e w3 ⟨rfl, rfl⟩
      rw [HRT.out q]
      generalize cUp C.sts q = u2 at *
      go_wp2
      go_roundw
      case rel => exact ⟨m, u2, done ++ [q], hg2, by omega, rfl, HRR, HG.out, Lib.hid (by rw [intVals_snoc]; simpa using HO'.out)⟩
      case measure => simp [intOf]; omega
/-! ### sets as bits -/
theorem bset_test (P : Nat → Bool) (n i : Nat) : (bset P n).testBit i = (decide (i < n) && P i) := by
  by_cases h : i < n
  · rw [Nat.testBit_eq_decide_div_mod_eq, bset_bit P n i h]
    cases P i <;> simp [h]
  · rw [Nat.testBit_lt_two_pow (Nat.lt_of_lt_of_le (bset_lt P n) (Nat.pow_le_pow_right (by decide) (by omega)))]
    simp [h]
theorem bset_add (P : Nat → Bool) (n k : Nat) (hk : k < n) : bset P n ||| 2 ^ k = bset (addS P (k : Int)) n := by
  refine Nat.eq_of_testBit_eq fun i => ?_
  rw [Nat.testBit_or, bset_test, bset_test, Nat.testBit_two_pow]
  unfold addS
  by_cases hi : k = i
  · subst hi; simp [hk]
  · have : ¬ ((i : Int) = (k : Int)) := by omega
    simp [hi, this]
theorem bset_and (P Q : Nat → Bool) (n : Nat) : bset P n &&& bset Q n = bset (fun x => P x && Q x) n := by
  refine Nat.eq_of_testBit_eq fun i => ?_
  rw [Nat.testBit_and, bset_test, bset_test, bset_test]
  cases decide (i < n) <;> cases P i <;> cases Q i <;> rfl
theorem bset_zero (P : Nat → Bool) (n : Nat) : bset P n = 0 ↔ ((List.range n).any P) = false := by
  constructor
  · intro h
    rw [List.any_eq_false]
    intro i hi
    have := bset_test P n i
    rw [h] at this
    have hlt := List.mem_range.1 hi
    simp [hlt] at this
    simp [this]
  · intro h
    rw [List.any_eq_false] at h
    refine Nat.eq_of_testBit_eq fun i => ?_
    rw [bset_test, Nat.zero_testBit]
    by_cases hi : i < n
    · have := h i (List.mem_range.2 hi)
      simp at this
      simp [this]
    · simp [hi]
theorem bset_u32 (P : Nat → Bool) {n : Nat} (hn : n ≤ 31) : bset P n < 4294967296 := Nat.lt_of_lt_of_le (bset_lt P n) (Nat.pow_le_pow_right (n := 2) (by decide) (show n ≤ 32 by omega))
theorem or_add (P : Nat → Bool) (n k : Nat) (hn : n ≤ 31) (hk : k < n) : bits .or .u32 ((bset P n : Nat) : Int) ((2 : Int) ^ k) = ((bset (addS P (k : Int)) n : Nat) : Int) := by
  have h1 : 2 ^ k < 2 ^ 32 := Nat.pow_lt_pow_right (by decide) (by omega)
  have h2 : ((2 : Int) ^ k) = ((2 ^ k : Nat) : Int) := by simp
  rw [h2, (bits_nat .u32 32 (by decide) wrap_u32 _ _ (bset_u32 P hn) h1).2, bset_add P n k hk]
theorem bset_memb (S : List St) (P : Nat → Bool) : memb S (bitN (bset P S.length)) = membU P S.length := by
  unfold memb membU
  congr 1
  refine List.filter_congr fun i hi => ?_
  have hlt := List.mem_range.1 hi
  unfold bitN
  rw [bset_bit P _ i hlt]
  cases P i <;> simp
theorem and_test (P : Nat → Bool) (n k : Nat) (hn : n ≤ 31) (hk : k < n) : (bits .and .u32 ((bset P n : Nat) : Int) ((2 : Int) ^ k) == 0) = !P k ∧ (bits .and .u32 ((bset P n : Nat) : Int) ((2 : Int) ^ k) != 0) = P k := by
  have hb : bitN (bset P n) k = P k := by
    unfold bitN
    rw [bset_bit P n k hk]
    cases P k <;> simp
  have hpw : ¬ ((2 : Int) ^ k = 0) := by
    have h2 : ((2 : Int) ^ k) = ((2 ^ k : Nat) : Int) := by simp
    rw [h2]
    have := Nat.pow_pos (n := k) (show 0 < 2 by decide)
    omega
  rw [and_bit _ k (bset_u32 P hn) (by omega), hb]
  cases P k
  · exact ⟨rfl, rfl⟩
  · rw [if_pos rfl]
    exact ⟨beq_false_of_ne hpw, bne_iff_ne.2 hpw⟩
set_option maxHeartbeats 1000000 in
set_option maxRecDepth 100000 in
theorem tkids_any (g : Nat) (s : Int) (C : Ch) (w : World) (hT : TreeAt w g C) (hl : C.sts.length ≤ 31) (hs : isSt C.sts s = true) :
    Calls Tryz.prog 65 #[.pointer (some ⟨g, 0, none⟩), .int .i64 s] w fun e w' => e = .returned (.int .u32 ((bset (kidB C.sts s) C.sts.length : Nat) : Int)) ∧ Below w.heap.size w w' := by
  have HH := Lib.hid (has_any g s C w hT (by omega))
  rw [hs] at HH
  obtain ⟨vs, vt, hX, hC⟩ := hT
  have HK := Lib.hid (kids_any C.vars s vs vt C w hC (by omega))
  obtain ⟨⟨x0, x1, x2⟩, -⟩ := hX.facts3
  clear hX hC hs
  go_enter Tryz.func65, Tryz.ntmps65
  go_wp2_with fail
  refine HH.out.mono ?_
  rintro e w1 ⟨rfl, rfl⟩
  go_wp2_with fail
  refine HK.out.mono ?_
  rintro e w1 ⟨hb1, v, rfl, ho1⟩
  have hL := list_of_own ho1
  have hkl : (kids C.sts s).length ≤ 31 := Nat.le_trans (kidsU_len C.sts s _) hl
  have hmem : ∀ x ∈ kids C.sts s, isSt C.sts x = true := fun x hx => (kids_mem.1 hx).1
  have hbit : ∀ k, k < C.sts.length → ((k : Int) ∈ kids C.sts s ↔ kidB C.sts s k = true) := fun k hk => by
    unfold kids kidsU
    rw [List.mem_map]
    constructor
    · rintro ⟨j, hj, he⟩
      obtain rfl : j = k := by omega
      exact (List.mem_filter.1 hj).2
    · intro h
      exact ⟨k, List.mem_filter.2 ⟨List.mem_range.2 hk, h⟩, rfl⟩
  have hfin : bset (fun k : Nat => decide ((k : Int) ∈ (kids C.sts s).take (kids C.sts s).length)) C.sts.length = bset (kidB C.sts s) C.sts.length := by
    refine Nat.eq_of_testBit_eq fun i => ?_
    rw [bset_test, bset_test, List.take_length]
    by_cases hi : i < C.sts.length
    · have := hbit i hi
      cases hk : kidB C.sts s i with
      | true => simp [hi, this.2 hk]
      | false => simp [hi]; intro h; rw [this.1 h] at hk; cases hk
    · simp [hi]
  have HFIN := Lib.hid hfin
  have HB1 := Lib.hid hb1
  have HMEM := Lib.hid hmem
  generalize kids C.sts s = L at *
  obtain ⟨A, cap, rfl, hcap, he⟩ := hL
  have HE := Lib.hid he
  clear ho1 he x0 x1 x2 hb1 hmem hbit hfin HK HH
  go_wp2_with fail
  go_loopw [5, 19] (fun v i wr => ∃ k : Nat, k ≤ L.length ∧ i = .int .i64 (k : Int) ∧ v = .int .u32 ((bset (fun j : Nat => decide ((j : Int) ∈ L.take k)) C.sts.length : Nat) : Int) ∧ wr = w1) (fun _ i _ => L.length - (intOf i).toNat)
  case atStart =>
    refine ⟨0, Nat.zero_le _, rfl, ?_, rfl⟩
    have : bset (fun j : Nat => decide ((j : Int) ∈ L.take 0)) C.sts.length = 0 := (bset_zero _ _).2 (by rw [List.any_eq_false]; intro x _; simp)
    rw [this]
    rfl
  case round =>
    obtain ⟨k, hk, rfl, rfl, rfl⟩ := hrel
    by_cases hlt : k < L.length
    · obtain ⟨b, o, rfl, hbl, hc⟩ := HE.out k _ (List.getElem?_eq_getElem hlt)
      have c0 : wr.cell? ⟨b, o + k, none⟩ = some (.int .i64 L[k]) := by have := hc; unfold IntAt at this; rwa [Nat.mul_one] at this
      obtain ⟨j, hj, hjl⟩ := isSt_nat (HMEM.out L[k] (List.getElem_mem hlt))
      have hor := or_add (fun j : Nat => decide ((j : Int) ∈ L.take k)) C.sts.length j hl hjl
      have hnext : addS (fun j : Nat => decide ((j : Int) ∈ L.take k)) (j : Int) = fun j : Nat => decide ((j : Int) ∈ L.take (k + 1)) := by
        funext i
        unfold addS
        rw [List.take_succ_eq_append_getElem hlt, hj]
        rw [Bool.eq_iff_iff]
        simp
      rw [hnext] at hor
      rw [hj] at c0
      have HOR := Lib.hid hor
      generalize bset (fun j : Nat => decide ((j : Int) ∈ L.take k)) C.sts.length = B at *
      clear hc hor hnext hj
      go_wp2_with fail
      refine (bit_any j (by omega) _).mono ?_
      rintro e w1 ⟨rfl, rfl⟩
      go_wp2_with fail
      go_roundw
      case rel => exact ⟨k + 1, by omega, by go_num, by rw [← HOR.out], trivial⟩
      case measure => simp [intOf]; omega
    · obtain rfl : k = L.length := by omega
      go_wp2_with fail
      go_ret
      exact ⟨ret_int (by rw [HFIN.out]), HB1.out⟩
end Go.Proofs.YtdkmloldajhdaaaGreatDoor
/- The contracts of enter's real and standInsOf. -/
namespace Go.Proofs.YtdkmloldajhdaaaGreatDoor
open Go.ChangeShapes Go.WideShapes Go.ChangeAt Go.RowKit
set_option linter.unusedVariables false

theorem realIn_mem {acc : List Int} {x y : Int} : y ∈ realIn acc x ↔ y ∈ acc ∨ y = x := by
  unfold realIn
  split
  · rename_i h
    constructor
    · exact .inl
    · rintro (h1 | rfl)
      · exact h1
      · simpa using h
  · simp
/-- which numbers are there already, as bits -/
def seenN (acc : List Int) (n : Nat) : Nat := bset (fun k : Nat => decide ((k : Int) ∈ acc)) n
theorem seen_add (acc : List Int) (n j : Nat) : addS (fun k : Nat => decide ((k : Int) ∈ acc)) (j : Int) = fun k : Nat => decide ((k : Int) ∈ realIn acc (j : Int)) := by
  funext k
  unfold addS
  rw [Bool.eq_iff_iff]
  simp [realIn_mem]
theorem seen_old {acc : List Int} {n j : Nat} (hn : n ≤ 31) (hj : j < n) (h : acc.contains (j : Int) = true) : (bits .and .u32 ((seenN acc n : Nat) : Int) ((2 : Int) ^ j) == 0) = false := by
  have := (and_test (fun k : Nat => decide ((k : Int) ∈ acc)) n j hn hj).1
  unfold seenN
  rw [this]
  simpa using h
theorem seen_new {acc : List Int} {n j : Nat} (hn : n ≤ 31) (hj : j < n) (h : acc.contains (j : Int) = false) : (bits .and .u32 ((seenN acc n : Nat) : Int) ((2 : Int) ^ j) == 0) = true := by
  have := (and_test (fun k : Nat => decide ((k : Int) ∈ acc)) n j hn hj).1
  unfold seenN
  rw [this]
  simpa using h
theorem seen_or {acc : List Int} {n j : Nat} (hn : n ≤ 31) (hj : j < n) : bits .or .u32 ((seenN acc n : Nat) : Int) ((2 : Int) ^ j) = ((seenN (realIn acc (j : Int)) n : Nat) : Int) := by
  have := or_add (fun k : Nat => decide ((k : Int) ∈ acc)) n j hn hj
  unfold seenN
  rw [this, seen_add acc n j]
theorem realIn_old {acc : List Int} {x : Int} (h : acc.contains x = true) : realIn acc x = acc := by unfold realIn; rw [if_pos h]
theorem realIn_new {acc : List Int} {x : Int} (h : acc.contains x = false) : realIn acc x = acc ++ [x] := by unfold realIn; rw [if_neg (by rw [h]; simp)]
theorem drop_fold {α β : Type} (G : β → α → β) (l : List α) (k : Nat) (h : k < l.length) (b : β) : (l.drop k).foldl G b = (l.drop (k + 1)).foldl G (G b l[k]) := by
  rw [List.drop_eq_getElem_cons h, List.foldl_cons]
set_option maxHeartbeats 4000000 in
set_option maxRecDepth 100000 in
theorem real_any (vs vh vl : Value) (S : List St) (H : List Nat) (l : List Int) (w : World) (hS : StsAt w vs S) (hH : HistAt w vh H) (hv : ListAt w vl l) (hl : S.length ≤ 31) (hHl : H.length ≤ 1000) (hll : l.length ≤ 1000)
    (hV : ∀ s, (ofS S H s).length ≤ 31 ∧ ∀ x ∈ ofS S H s, isSt S x = true) :
    Calls Tryz.prog 22 #[.agg #[vs, vh], vl] w (KPost (realS S H l) w) := by
  obtain ⟨i0, hi, hz0, hz1, hz2⟩ := info_parts Tryz.info3
  have HI := Lib.hid hi
  have HZ0 := Lib.hid hz0
  have HZ1 := Lib.hid hz1
  have HZ2 := Lib.hid hz2
  clear hi hz0 hz1 hz2
  have HOF := Lib.hid (fun (W : World) (h : Below w.heap.size w W) (s : Int) => of_any vs vh S H s w W h hS hH hl hHl)
  have HVV := Lib.hid hV
  have HX0 := Lib.hid (Blk.new w 59 #[vs, vh])
  obtain ⟨sA, scap, rfl, hscap⟩ := RowsAt.slice hS
  obtain ⟨hA, hcap, rfl, hhcap⟩ := RowsAt.slice hH
  obtain ⟨A, cap, rfl, hlcap, he⟩ := hv
  have HE := Lib.hid he
  have HR : Hid (realS S H l = l.foldl (fun acc s => (ofS S H s).foldl realIn acc) []) := Lib.hid rfl
  generalize realS S H l = R at *
  clear he hS hH hV
  go_enter Tryz.func22, Tryz.ntmps22
  go_wp2_with fail
  go_loopw [5, 6, 13] (fun v sn i wr => ∃ (k : Nat) (acc : List Int), k ≤ l.length ∧ acc.length ≤ k * 31 ∧ i = .int .i64 (k : Int) ∧ sn = .int .u32 ((seenN acc S.length : Nat) : Int) ∧ Hid (R = (l.drop k).foldl (fun acc s => (ofS S H s).foldl realIn acc) acc) ∧ Below (w.alloc (siBox (.slice sA S.length scap) (.slice hA H.length hcap))).heap.size (w.alloc (siBox (.slice sA S.length scap) (.slice hA H.length hcap))) wr ∧ Hid (wr.ownsRow (w.heap.size + 1) 3 1 v acc.length (intVals acc))) (fun _ _ i _ => l.length - (intOf i).toNat)
  case atStart =>
    refine ⟨0, [], Nat.zero_le _, Nat.zero_le _, rfl, ?_, HR, Below.refl _ _, Lib.hid (World.ownsRow_nil _ _ _ _)⟩
    have : seenN [] S.length = 0 := (bset_zero _ _).2 (by rw [List.any_eq_false]; intro x _; simp)
    rw [this]
    rfl
  case round =>
    clear HR
    obtain ⟨k, acc, hk, hal, rfl, rfl, HR, hb, hown⟩ := hrel
    obtain ⟨wo, rfl⟩ : ∃ wo : World, wo = wr := ⟨_, rfl⟩
    have HB := Lib.hid hb
    by_cases hlt : k < l.length
    · obtain ⟨b, o, rfl, hbl, hc⟩ := HE.out k _ (List.getElem?_eq_getElem hlt)
      have c0 : wo.cell? ⟨b, o + k, none⟩ = some (.int .i64 l[k]) := by have := IntAt.keeps w wo b _ _ (below_boxed hb) hbl hc; rwa [Nat.mul_one] at this
      have hX := HX0.out.below hb (by simp)
      have x0 := hX.cell 0
      have x1 := hX.cell 1
      simp at x0 x1
      have HRK := Lib.hid (HR.out.trans (drop_fold _ l k hlt acc))
      have HO := Lib.hid (HOF.out wo (below_boxed hb) l[k])
      have hML := (HVV.out l[k]).1
      have HMV := Lib.hid (HVV.out l[k]).2
      generalize l[k] = s at *
      generalize ofS S H s = M at *
      have hvo : ∀ g, u5.ownBlock = some g → w.heap.size + 1 ≤ g ∧ g < wo.heap.size := fun g h => hown.out.lt g h
      have HVO := Lib.hid hvo
      clear hc hX hvo hb
      go_wp2_with fail
      refine HO.out.mono ?_
      rintro e w1 ⟨hb1, v1, rfl, hL1⟩
      have HB1 := Lib.hid (HB.out.trans (hb1.mono HB.out.size))
      have HOW1 := Lib.hid (own_below hown.out hb1)
      have HM1 : Hid (LiAt (fun b => some b ≠ u5.ownBlock) w1 v1 M) := Lib.hid (hL1.mono fun b hb hc => by
        intro he
        have := HVO.out b he.symm
        omega)
      obtain ⟨mA, mcap, hmv, hmc⟩ := RowsAt.slice hL1
      subst hmv
      clear hb1 hL1 hown HVO x0 x1 HO
      go_wp2_with fail
      go_loopw [5, 6, 21] (fun v sn i wr => ∃ (m : Nat) (acc : List Int), m ≤ M.length ∧ acc.length ≤ k * 31 + m ∧ i = .int .i64 (m : Int) ∧ sn = .int .u32 ((seenN acc S.length : Nat) : Int) ∧ Hid (R = (l.drop (k + 1)).foldl (fun acc s => (ofS S H s).foldl realIn acc) ((M.drop m).foldl realIn acc)) ∧ Below (w.alloc (siBox (.slice sA S.length scap) (.slice hA H.length hcap))).heap.size (w.alloc (siBox (.slice sA S.length scap) (.slice hA H.length hcap))) wr ∧ Hid (wr.ownsRow (w.heap.size + 1) 3 1 v acc.length (intVals acc)) ∧ Hid (LiAt (fun b => some b ≠ v.ownBlock) wr (.slice mA M.length mcap) M)) (fun _ _ i _ => M.length - (intOf i).toNat)
      case atStart => exact ⟨0, acc, Nat.zero_le _, hal, rfl, rfl, HRK, HB1.out, HOW1, HM1⟩
      case round =>
        clear HRK HB1 HOW1 HM1 HR HB hal
        obtain ⟨m, acc', hm, hal, rfl, rfl, HR, hb, hown, HM⟩ := hrel
        have HB := Lib.hid hb
        have hbs : w.heap.size + 1 ≤ wr.heap.size := by have := hb.size; simpa using this
        clear hb
        by_cases hlt2 : m < M.length
        · obtain ⟨mb, mo, hmA, hmbl, hmc0, hmne⟩ := (let ⟨_, _, h1, _, h3⟩ := HM.out; by injection h1 with e1 e2 e3; subst e1; exact h3 m _ (List.getElem?_eq_getElem hlt2) : ∃ b o, mA = some ⟨b, o, none⟩ ∧ b < wr.heap.size ∧ (IntAt wr b (o + m * 1) M[m]) ∧ some b ≠ _)
          subst hmA
          have d0 : wr.cell? ⟨mb, mo + m, none⟩ = some (.int .i64 M[m]) := by have := hmc0; unfold IntAt at this; rwa [Nat.mul_one] at this
          obtain ⟨j, hj, hjl⟩ := isSt_nat (HMV.out M[m] (List.getElem_mem hlt2))
          have HRM := Lib.hid (HR.out.trans (congrArg (fun z => (l.drop (k + 1)).foldl (fun acc s => (ofS S H s).foldl realIn acc) z) (drop_fold _ M m hlt2 acc')))
          rw [hj] at d0 HRM
          clear hmc0 hj
          cases hcn : acc'.contains (j : Int) with
          | true =>
            have hz := seen_old hl hjl hcn
            rw [realIn_old hcn] at HRM
            clear hcn
            go_wp2_with fail
            refine (bitS_any j (by omega) _).mono ?_
            rintro e w2 ⟨rfl, rfl⟩
            go_wp2_with fail
            go_roundw
            case rel => exact ⟨m + 1, acc', by omega, by omega, by go_num, rfl, HRM, HB.out, hown, HM⟩
            case measure => simp [intOf]; omega
          | false =>
            have hz := seen_new hl hjl hcn
            have HOR := Lib.hid (seen_or (acc := acc') hl hjl)
            rw [realIn_new hcn] at HRM HOR
            clear hcn
            go_wp2_with fail
            refine (bitS_any j (by omega) _).mono ?_
            rintro e w2 ⟨rfl, rfl⟩
            go_wp2_with fail
            refine (bitS_any j (by omega) _).mono ?_
            rintro e w2 ⟨rfl, rfl⟩
            go_wp2_with (at_builtin; refine wpList_append_own_at _ rfl _ _ 27 rfl (w.heap.size + 1) 3 i0 (.int .i64 0) 1 8 Tryz.underlying27 HI.out HZ0.out HZ1.out HZ2.out rfl (by decide) _ _ _ rfl (hown.out.alloc _) ⟨wr.heap.size, 0, none⟩ 1 1 [.int .i64 (j : Int)] rfl rfl ?c1 ?c2 ?c3 ?c4 ?c5 ?_)
            case c1 => exact new_val _ _ _ _ (by simp)
            case c2 => exact int_one _
            case c3 => unfold maxLen; omega
            case c4 => omega
            case c5 => simp; omega
            intro v' w2 hown' hgrow _ hat
            have HG := Lib.hid (Below.grown (HB.out.alloc HB.out.size _) hgrow (by simp; omega) (fun g hg => by have := (hown.out.lt g hg).1; simpa using this))
            have HO' := Lib.hid hown'
            have HM2 : Hid (LiAt (fun b => some b ≠ v'.ownBlock) w2 (.slice (some ⟨mb, mo, none⟩) M.length mcap) M) := Lib.hid (((((HM.out.mono fun b hb hc => (⟨hb, hc⟩ : b < wr.heap.size ∧ some b ≠ _)).below (below_box wr _)).grown hgrow fun b _ hc => hc.2).mono fun b _ hc => by
              rcases hat with h | h
              · rw [h]; exact hc.2
              · rw [h]; intro he; injection he with he; have := hc.1; have h3 : (wr.alloc (.cells #[.int .i64 (j : Int)] 3)).heap.size = wr.heap.size + 1 := by simp
                omega))
            clear hown' hgrow hat
            go_wp2
            go_roundw
            case rel => exact ⟨m + 1, acc' ++ [(j : Int)], by omega, by simp; omega, by go_num, by rw [HOR.out], HRM, HG.out, Lib.hid (by rw [intVals_snoc]; simpa using HO'.out), HM2⟩
            case measure => simp [intOf]; omega
        · obtain rfl : m = M.length := by omega
          have HRM := HR.out
          rw [List.drop_length] at HRM
          have HRN := Lib.hid HRM
          clear HRM
          go_wp2
          go_roundw
          case rel => exact ⟨k + 1, acc', by omega, by omega, by go_num, rfl, HRN, HB.out, hown⟩
          case measure => simp [intOf]; omega
    · obtain rfl : k = l.length := by omega
      have hR := HR.out
      rw [List.drop_length] at hR
      have HRR := Lib.hid hR
      clear hR
      go_wp2_with fail
      go_ret
      exact ⟨below_boxed hb, _, rfl, by rw [HRR.out]; exact own_lower hown.out (by omega)⟩
theorem field_ch1 (a b c : Value) (w : World) : Sem.run Tryz.prog (Instr.field 25 (.agg #[a, b, c]) 1) w = .ok b w := by
  unfold Instr.field
  have h := Tryz.underlying25
  simp [go_sem, asAgg]
theorem load_si {w : World} {g : Nat} {a b : Value} (hB : Blk w g 59 #[a, b]) : (loadVar 59 ⟨g, 0, none⟩).run Tryz.prog w = .ok (.agg #[a, b]) w := run_loadVar_row (P := Tryz.prog) w g 59 59 _ (0, 0) _ hB Tryz.underlying59 rfl (by kernel_rfl)
set_option maxHeartbeats 1000000 in
set_option maxRecDepth 100000 in
theorem standIns_any (g : Nat) (hA : Option Addr) (hn hcap : Nat) (C : Ch) (w : World) (hT : TreeAt w g C) (hF : fewB C = true) :
    Calls Tryz.prog 21 #[.pointer (some ⟨g, 0, none⟩), .slice hA hn hcap] w fun e w' => Below w.heap.size w w' ∧ ∃ vs, e = .returned (.agg #[vs, .slice hA hn hcap]) ∧ StsAt w' vs C.sts := by
  have HY := Lib.hid (Blk.new w 59 #[.slice none 0 0, .slice none 0 0])
  have HC := Lib.hid (chartT_any g C _ (hT.below (below_box w (siBox (.slice none 0 0) (.slice none 0 0)))) hF)
  clear hT
  go_enter Tryz.func21, Tryz.ntmps21
  go_wp2_with fail
  refine HC.out.mono ?_
  rintro e w1 ⟨hb1, us, ut, rfl, ho1⟩
  obtain ⟨uA, ucap, rA, rcap, rfl, rfl⟩ := ho1.has.slices
  have HY1 := Lib.hid (HY.out.below hb1 HY.out.lt)
  have HB1 := Lib.hid (below_boxed hb1)
  have HO1 := Lib.hid (ho1.lower (B' := w.heap.size) (by simp))
  have y0 := HY1.out.cell 0
  have y1 := HY1.out.cell 1
  have z0 := HY1.out.frozen 0
  have z1 := HY1.out.frozen 1
  simp at y0 y1
  have hfd := fun W => field_ch1 (.int .i64 C.vars) (.slice uA C.sts.length ucap) (.slice rA C.trs.length rcap) W
  clear hb1 ho1
  go_wp2_with fail
  refine bodyPost_ret (results_own rfl _ _ _ rfl (load_si ((HY1.out.set_ 0 _).set_ 1 _))) rfl ?_
  have q1 := HY1.out.set_ 0 (.slice uA C.sts.length ucap)
  exact ⟨(HB1.out.setCell (p := ⟨w.heap.size, 0, none⟩) (Nat.le_refl _) _).setCell (p := ⟨w.heap.size, 1, none⟩) (Nat.le_refl _) _, _, rfl,
    ((HO1.out.apart HY1.out (by decide) (by decide) (by decide) (by decide) 0 (.slice uA C.sts.length ucap)).apart q1 (by decide) (by decide) (by decide) (by decide) 1 (.slice hA hn hcap)).has.1⟩
end Go.Proofs.YtdkmloldajhdaaaGreatDoor
