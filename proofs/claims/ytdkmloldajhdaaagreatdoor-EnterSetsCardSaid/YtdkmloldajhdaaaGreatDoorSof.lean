/- The contracts of enter's small functions: bit, isHistory, has, members, of: what a state stands for. -/
import Derived.Test.YtdkmloldajhdaaaGreatDoorTnw
import Derived.Test.YtdkmloldajhdaaaGreatDoorSpure
import Derived.Test.YtdkmloldajhdaaaGreatDoorDrw
namespace Go.Proofs.YtdkmloldajhdaaaGreatDoor
open Go.ChangeShapes Go.WideShapes Go.ChangeAt Go.RowKit
set_option linter.unusedVariables false

/-- a row of sets -/
def U32At (w : World) (b o : Nat) (x : Nat) : Prop := w.cell? ⟨b, o, none⟩ = some (.int .u32 (x : Int)) ∧ x < 4294967296
theorem U32At.keeps : Keeps U32At := fun w w' b o x hb hlt h => ⟨(hb.cell (p := ⟨b, o, none⟩) hlt).trans h.1, h.2⟩
def HistAt (w : World) (v : Value) (H : List Nat) : Prop := RowsAt 1 U32At w v H
theorem HistAt.below {w w' : World} {v : Value} {H : List Nat} (h : HistAt w v H) (hb : Below w.heap.size w w') : HistAt w' v H := RowsAt.below U32At.keeps h hb
abbrev siBox (vs vh : Value) : Obj := .cells #[vs, vh] 59
theorem bitS_any (k : Nat) (hk : k ≤ 31) (w : World) : Calls Tryz.prog 43 #[.int .i64 (k : Int)] w fun e w' => e = .returned (.int .u32 ((2 ^ k : Nat) : Int)) ∧ w = w' := by
  have h0 : decide ((k : Int) < 0) = false := by simp
  go_enter Tryz.func43, Tryz.ntmps43
  go_wp2_with fail
  go_ret
  refine ⟨ret_int ?_, rfl⟩
  have h1 : (2 : Nat) ^ k ≤ 2 ^ 31 := Nat.pow_le_pow_right (by decide) hk
  have h2 : ((2 : Int) ^ k) = ((2 ^ k : Nat) : Int) := by simp
  rw [show (2 : Nat) ^ 31 = 2147483648 by decide] at h1
  rw [h2]
  generalize 2 ^ k = m at *
  omega
theorem isHistS_any (K : Int) (w : World) : Calls Tryz.prog 45 #[.int .i64 K] w fun e w' => e = .returned (.bool (histB K)) ∧ w = w' := by
  by_cases h : K = 5
  · subst h
    go_enter Tryz.func45, Tryz.ntmps45
    go_wp2_with fail
    go_ret
    exact ⟨rfl, rfl⟩
  · have h2 : (K == 5) = false := by simpa using h
    go_enter Tryz.func45, Tryz.ntmps45
    go_wp2_with fail
    go_ret
    exact ⟨ret_bool (by unfold histB; simp [h]; rfl), rfl⟩
theorem hasS_any (vs vh : Value) (S : List St) (s : Int) (w : World) (hS : StsAt w vs S) (hl : S.length ≤ 1000) :
    Calls Tryz.prog 44 #[.agg #[vs, vh], .int .i64 s] w fun e w' => e = .returned (.bool (isSt S s)) ∧ Below w.heap.size w w' := by
  obtain ⟨A, cap, rfl, hcap⟩ := RowsAt.slice hS
  have HB := Lib.hid (below_box w (siBox (.slice A S.length cap) vh))
  clear hS
  by_cases h : 0 ≤ s
  · have h2 : decide (0 ≤ s) = true := by simpa using h
    go_enter Tryz.func44, Tryz.ntmps44
    go_wp2_with fail
    go_ret
    exact ⟨ret_bool (by unfold isSt; rw [h2]; rfl), HB.out⟩
  · have h2 : decide (0 ≤ s) = false := by simpa using h
    go_enter Tryz.func44, Tryz.ntmps44
    go_wp2_with fail
    go_ret
    exact ⟨ret_bool (by unfold isSt; rw [h2]; rfl), HB.out⟩
theorem and_bit (n k : Nat) (hn : n < 4294967296) (hk : k ≤ 31) : bits .and .u32 (n : Int) ((2 : Int) ^ k) = if bitN n k = true then ((2 : Int) ^ k) else 0 := by
  have h1 : 2 ^ k < 2 ^ 32 := Nat.pow_lt_pow_right (by decide) (by omega)
  have h2 : ((2 : Int) ^ k) = ((2 ^ k : Nat) : Int) := by simp
  have h3 : n &&& 2 ^ k = if bitN n k = true then 2 ^ k else 0 := by
    refine Nat.eq_of_testBit_eq fun i => ?_
    rw [Nat.testBit_and, Nat.testBit_two_pow]
    unfold bitN
    rw [← Nat.testBit_eq_decide_div_mod_eq]
    by_cases hi : k = i
    · subst hi
      cases n.testBit k <;> simp
    · cases n.testBit k <;> simp [hi]
  rw [h2, (bits_nat .u32 32 (by decide) wrap_u32 _ _ hn h1).1, h3]
  split <;> rfl
def membU (P : Nat → Bool) (k : Nat) : List Int := ((List.range k).filter P).map fun j : Nat => (j : Int)
theorem membU_succ (P : Nat → Bool) (k : Nat) : membU P (k + 1) = membU P k ++ if P k = true then [(k : Int)] else [] := by
  unfold membU
  rw [List.range_succ, List.filter_append, List.map_append]
  by_cases h : P k = true
  · simp [h]
  · simp [h]
theorem membU_len (P : Nat → Bool) (k : Nat) : (membU P k).length ≤ k := by
  unfold membU
  rw [List.length_map]
  simpa using List.length_filter_le P (List.range k)
set_option maxHeartbeats 1000000 in
set_option maxRecDepth 100000 in
theorem members_any (vs vh : Value) (S : List St) (n : Nat) (w : World) (hS : StsAt w vs S) (hl : S.length ≤ 31) (hn : n < 4294967296) :
    Calls Tryz.prog 64 #[.agg #[vs, vh], .int .u32 (n : Int)] w (KPost (memb S (bitN n)) w) := by
  obtain ⟨i0, hi, hz0, hz1, hz2⟩ := info_parts Tryz.info3
  have HI := Lib.hid hi
  have HZ0 := Lib.hid hz0
  have HZ1 := Lib.hid hz1
  have HZ2 := Lib.hid hz2
  clear hi hz0 hz1 hz2
  obtain ⟨A, cap, rfl, hcap⟩ := RowsAt.slice hS
  have HM := Lib.hid (show memb S (bitN n) = membU (bitN n) S.length from rfl)
  have HML := Lib.hid (membU_len (bitN n))
  clear hS
  go_enter Tryz.func64, Tryz.ntmps64
  go_wp2_with fail
  go_loopw [5, 10] (fun v i wr => ∃ (k : Nat), k ≤ S.length ∧ i = .int .i64 (k : Int) ∧ Below (w.alloc (siBox (.slice A S.length cap) vh)).heap.size (w.alloc (siBox (.slice A S.length cap) vh)) wr ∧ Hid (wr.ownsRow (w.heap.size + 1) 3 1 v (membU (bitN n) k).length (intVals (membU (bitN n) k)))) (fun _ i _ => S.length - (intOf i).toNat)
  case atStart => exact ⟨0, Nat.zero_le _, rfl, Below.refl _ _, Lib.hid (World.ownsRow_nil _ _ _ _)⟩
  case round =>
    obtain ⟨k, hk, rfl, hb, hown⟩ := hrel
    obtain ⟨wo, rfl⟩ : ∃ wo : World, wo = wr := ⟨_, rfl⟩
    by_cases hlt : k < S.length
    · have hand := and_bit n k hn (by omega)
      have HSUC := Lib.hid (membU_succ (bitN n) k)
      have hkl := HML.out k
      have HB := Lib.hid hb
      have hbs : w.heap.size + 1 ≤ wo.heap.size := by have := hb.size; simpa using this
      have hpw : ¬ ((2 : Int) ^ k = 0) := by
        have h2 : ((2 : Int) ^ k) = ((2 ^ k : Nat) : Int) := by simp
        rw [h2]
        have := Nat.pow_pos (n := k) (show 0 < 2 by decide)
        omega
      clear hb
      cases hbit : bitN n k with
      | true =>
        rw [hbit, if_pos rfl] at hand
        have hne : (bits .and .u32 (n : Int) ((2 : Int) ^ k) != 0) = true := by rw [hand]; exact bne_iff_ne.2 hpw
        have HBIT := Lib.hid hbit
        clear hand hbit hpw
        go_wp2_with fail
        refine (bitS_any k (by omega) _).mono ?_
        rintro e w1 ⟨rfl, rfl⟩
        go_wp2_with (at_builtin; refine wpList_append_own_at _ rfl _ _ 27 rfl (w.heap.size + 1) 3 i0 (.int .i64 0) 1 8 Tryz.underlying27 HI.out HZ0.out HZ1.out HZ2.out rfl (by decide) _ _ _ rfl (hown.out.alloc _) ⟨wo.heap.size, 0, none⟩ 1 1 [.int .i64 (k : Int)] rfl rfl ?c1 ?c2 ?c3 ?c4 ?c5 ?_)
        case c1 => exact new_val _ _ _ _ (by simp)
        case c2 => exact int_one _
        case c3 => unfold maxLen; omega
        case c4 => omega
        case c5 => simp; omega
        intro v' w2 hown' hgrow _ _
        have HG := Lib.hid (Below.grown (HB.out.alloc HB.out.size _) hgrow (by simp; omega) (fun g hg => by have := (hown.out.lt g hg).1; simpa using this))
        have HO' := Lib.hid hown'
        clear hown' hgrow
        go_wp2
        go_roundw
        case rel => exact ⟨k + 1, by omega, by go_num, HG.out, Lib.hid (by rw [HSUC.out, if_pos HBIT.out, intVals_snoc]; simpa using HO'.out)⟩
        case measure => simp [intOf]; omega
      | false =>
        rw [hbit, if_neg (by simp)] at hand
        have hne : (bits .and .u32 (n : Int) ((2 : Int) ^ k) != 0) = false := by rw [hand]; simp
        have HBIT := Lib.hid hbit
        clear hand hbit hpw
        go_wp2_with fail
        refine (bitS_any k (by omega) _).mono ?_
        rintro e w1 ⟨rfl, rfl⟩
        go_wp2_with fail
        go_roundw
        case rel => exact ⟨k + 1, by omega, by go_num, HB.out, Lib.hid (by rw [HSUC.out, if_neg (by rw [HBIT.out]; simp), List.append_nil]; exact hown.out)⟩
        case measure => simp [intOf]; omega
    · obtain rfl : k = S.length := by omega
      go_wp2_with fail
      go_ret
      exact ⟨below_boxed hb, _, rfl, by rw [HM.out]; exact own_lower hown.out (by omega)⟩
end Go.Proofs.YtdkmloldajhdaaaGreatDoor
/- The contracts of enter's of and real, and of standInsOf: what Targets really are. -/
namespace Go.Proofs.YtdkmloldajhdaaaGreatDoor
open Go.ChangeShapes Go.WideShapes Go.ChangeAt Go.RowKit
set_option linter.unusedVariables false

/-- a row of numbers, in blocks that K tells -/
def LiAt (K : Nat → Prop) (w : World) (v : Value) (L : List Int) : Prop := RowsAt 1 (fun w b o x => IntAt w b o x ∧ K b) w v L
theorem LiAt.list {K : Nat → Prop} {w : World} {v : Value} {L : List Int} (h : LiAt K w v L) : ListAt w v L := by
  obtain ⟨A, cap, hv, hc, hi⟩ := h
  refine ⟨A, cap, hv, hc, fun i x hx => ?_⟩
  obtain ⟨b, o, h1, h2, h3⟩ := hi i x hx
  exact ⟨b, o, h1, h2, h3.1⟩
theorem LiAt.mono {K K' : Nat → Prop} {w : World} {v : Value} {L : List Int} (h : LiAt K w v L) (hK : ∀ b, b < w.heap.size → K b → K' b) : LiAt K' w v L := by
  obtain ⟨A, cap, hv, hc, hi⟩ := h
  refine ⟨A, cap, hv, hc, fun i x hx => ?_⟩
  obtain ⟨b, o, h1, h2, h3⟩ := hi i x hx
  exact ⟨b, o, h1, h2, h3.1, hK b h2 h3.2⟩
theorem LiAt.grown {K : Nat → Prop} {w w' : World} {row : Option Nat} {v : Value} {L : List Int} (h : LiAt K w v L) (hg : w.grownBy w' row) (hK : ∀ b, b < w.heap.size → K b → some b ≠ row) : LiAt K w' v L := by
  obtain ⟨A, cap, hv, hc, hi⟩ := h
  refine ⟨A, cap, hv, hc, fun i x hx => ?_⟩
  obtain ⟨b, o, h1, h2, h3⟩ := hi i x hx
  exact ⟨b, o, h1, Nat.lt_of_lt_of_le h2 hg.size, (World.cell?_of_block (hg.block b h2 (hK b h2 h3.2))).trans h3.1, h3.2⟩
theorem LiAt.below {K : Nat → Prop} {w w' : World} {v : Value} {L : List Int} (h : LiAt K w v L) (hb : Below w.heap.size w w') : LiAt K w' v L := h.grown (only_of_below hb none) (fun _ _ _ h => by cases h)
theorem LiAt.of_list {K : Nat → Prop} {w : World} {v : Value} {L : List Int} (h : ListAt w v L) (hK : ∀ b, b < w.heap.size → K b) : LiAt K w v L := by
  obtain ⟨A, cap, hv, hc, hi⟩ := h
  refine ⟨A, cap, hv, hc, fun i x hx => ?_⟩
  obtain ⟨b, o, h1, h2, h3⟩ := hi i x hx
  exact ⟨b, o, h1, h2, h3, hK b h2⟩
theorem LiAt.of_own {K : Nat → Prop} {w : World} {B : Nat} {v : Value} {L : List Int} (h : w.ownsRow B 3 1 v L.length (intVals L)) (hK : ∀ b, B ≤ b → K b) : LiAt K w v L := by
  have h' := h
  rcases h.2 with ⟨h1, h0⟩ | ⟨g, cap, cur, rfl, hge, hgt, hcap, _⟩
  · obtain rfl : L = [] := List.eq_nil_of_length_eq_zero h0
    rw [h1]
    exact RowsAt.nil w
  · refine ⟨_, cap, rfl, hcap, fun i x hx => ⟨g, 0, rfl, (h'.lt g rfl).2, ?_, hK g hge⟩⟩
    show w.cell? ⟨g, 0 + i * 1, none⟩ = _
    rw [Nat.zero_add, Nat.mul_one]
    exact own_cell h' i _ (by simp [intVals, hx])
/-- a row of numbers is told, in old blocks (below n) or in new ones -/
def IntsPost (n : Nat) (L : List Int) (w : World) (e : Ending) (w' : World) : Prop := Below w.heap.size w w' ∧ ∃ v, e = .returned v ∧ LiAt (fun b => b < n ∨ w.heap.size ≤ b) w' v L
theorem KPost.ints {n : Nat} {L : List Int} {w w' : World} {e : Ending} (h : KPost L w e w') : IntsPost n L w e w' := by
  obtain ⟨h1, v, h2, h3⟩ := h
  exact ⟨h1, v, h2, LiAt.of_own h3 fun b hb => .inr hb⟩
theorem StsAt.st {w : World} {vs : Value} {S : List St} (h : StsAt w vs S) {k : Nat} (hk : k < S.length) :
    ∃ (b o cap : Nat) (vi ve vx : Value), vs = .slice (some ⟨b, o, none⟩) S.length cap ∧ S.length ≤ cap ∧ b < w.heap.size ∧ StC w b (o + k * 5) (stAt S (k : Int)) vi ve vx ∧ StHas w vi ve vx (stAt S (k : Int)) :=
  ChHas.st (vt := .slice none 0 0) (C := ⟨0, S, []⟩) ⟨h, RowsAt.nil w⟩ hk
theorem HistAt.at {w : World} {v : Value} {H : List Nat} (h : HistAt w v H) {k : Nat} (hk : k < H.length) :
    ∃ (b o cap : Nat), v = .slice (some ⟨b, o, none⟩) H.length cap ∧ H.length ≤ cap ∧ b < w.heap.size ∧ w.cell? ⟨b, o + k, none⟩ = some (.int .u32 (histAt H (k : Int) : Int)) ∧ histAt H (k : Int) < 4294967296 := by
  obtain ⟨A, cap, hv, hc, hi⟩ := h
  obtain ⟨b, o, hA, hlt, h0, h1⟩ := hi k _ (List.getElem?_eq_getElem hk)
  have he : histAt H (k : Int) = H[k] := by unfold histAt; simp [List.getD, List.getElem?_eq_getElem hk]
  rw [he]
  exact ⟨b, o, cap, by rw [hv, hA], hc, hlt, by rwa [Nat.mul_one] at h0, h1⟩
theorem sibox_later {w w1 : World} {vs vh : Value} (hb : Below (w.alloc (siBox vs vh)).heap.size (w.alloc (siBox vs vh)) w1) : Blk w1 w.heap.size 59 #[vs, vh] := (Blk.new w 59 #[vs, vh]).below hb (by simp)
theorem one_list {w : World} {x : Int} (g : Nat) (h : Blk w g 3 #[.int .i64 x]) : ListAt w (.slice (some ⟨g, 0, none⟩) 1 1) [x] := by
  refine ⟨_, 1, rfl, Nat.le_refl _, fun i y hi => ?_⟩
  have hlt := (List.getElem?_eq_some_iff.1 hi).1
  simp at hlt
  subst hlt
  simp at hi
  subst hi
  exact ⟨g, 0, rfl, h.lt, h.cell 0⟩
theorem LiAt.of_list' {n m g : Nat} {w : World} {x : Int} {c : Nat} (h : ListAt w (.slice (some ⟨g, 0, none⟩) 1 c) [x]) (hm : m ≤ g) : LiAt (fun b => b < n ∨ m ≤ b) w (.slice (some ⟨g, 0, none⟩) 1 c) [x] := by
  obtain ⟨A, cap, hv, hc, hi⟩ := h
  injection hv with e1 e2 e3
  refine ⟨A, cap, by rw [e1, e3]; rfl, hc, fun i y hy => ?_⟩
  obtain ⟨b, o, h1, h2, h3⟩ := hi i y hy
  rw [h1] at e1
  injection e1 with e1
  injection e1 with e4 e5
  exact ⟨b, o, h1, h2, h3, .inr (by omega)⟩
theorem LiAt.below0 {K : Nat → Prop} {w0 w w' : World} {v : Value} {L : List Int} (h : LiAt K w0 v L) (h0 : Below w0.heap.size w0 w) (hb : Below w.heap.size w w') : LiAt K w' v L := (h.below h0).below hb
set_option maxHeartbeats 2000000 in
set_option maxRecDepth 100000 in
theorem of_any (vs vh : Value) (S : List St) (H : List Nat) (s : Int) (w0 w : World) (hb0 : Below w0.heap.size w0 w) (hS0 : StsAt w0 vs S) (hH0 : HistAt w0 vh H) (hl : S.length ≤ 31) (hHl : H.length ≤ 1000) :
    Calls Tryz.prog 42 #[.agg #[vs, vh], .int .i64 s] w (IntsPost w0.heap.size (ofS S H s) w) := by
  have hS := hS0.below hb0
  have hH := hH0.below hb0
  have HBZ := Lib.hid hb0
  have HS := Lib.hid hS
  have HH := Lib.hid hH
  obtain ⟨sA, scap, rfl, hscap⟩ := RowsAt.slice hS
  obtain ⟨hA, hcap, rfl, hhcap⟩ := RowsAt.slice hH
  have HB0 := Lib.hid (below_box w (siBox (.slice sA S.length scap) (.slice hA H.length hcap)))
  have HX0 := Lib.hid (Blk.new w 59 #[.slice sA S.length scap, .slice hA H.length hcap])
  have HA := Lib.hid (hasS_any (.slice sA S.length scap) (.slice hA H.length hcap) S s (w.alloc (siBox (.slice sA S.length scap) (.slice hA H.length hcap))) (hS.below HB0.out) (by omega))
  cases hs : isSt S s with
  | false =>
    have HR := Lib.hid (show ofS S H s = [] by unfold ofS; rw [if_pos hs])
    rw [hs] at HA
    clear hb0 hS0 hH0 hS hH hs
    go_enter Tryz.func42, Tryz.ntmps42
    go_wp2_with fail
    refine HA.out.mono ?_
    rintro e w1 ⟨rfl, hb1⟩
    have HB1 := Lib.hid (HB0.out.trans (hb1.mono (by simp)))
    clear hb1
    go_wp2_with fail
    go_ret
    exact ⟨HB1.out, _, rfl, by rw [HR.out]; exact RowsAt.nil _⟩
  | true =>
    obtain ⟨k, rfl, hk⟩ := isSt_nat hs
    rw [hs] at HA
    obtain ⟨b, o, cap, vi, ve, vx, hsl, hcc, hbl0, hst0, hhas⟩ := hS0.st hk
    have hbl := Nat.lt_of_lt_of_le hbl0 hb0.size
    have hst := hst0.below hb0 hbl0
    injection hsl with e1 e2 e3
    subst e1; subst e3
    have HST := Lib.hid hst
    have HHAS := Lib.hid hhas
    cases hh : histB (stAt S (k : Int)).kind with
    | false =>
      have HR := Lib.hid (show ofS S H (k : Int) = [(k : Int)] by unfold ofS; rw [if_neg (by rw [hs]; simp), if_pos hh])
      have HHI := Lib.hid hh
      clear hb0 hS0 hH0 hS hH hs hst hst0 hhas hh
      go_enter Tryz.func42, Tryz.ntmps42
      go_wp2_with fail
      refine HA.out.mono ?_
      rintro e w1 ⟨rfl, hb1⟩
      have HX1 := Lib.hid (HX0.out.below hb1 (by simp))
      have x0 := HX1.out.cell 0
      have x1 := HX1.out.cell 1
      simp at x0 x1
      have HB1 := Lib.hid (HB0.out.trans (hb1.mono (by simp)))
      obtain ⟨c0, c1, c2, c3, c4⟩ := HST.out.below HB1.out hbl
      clear hb1
      go_wp2_with fail
      refine (isHistS_any _ _).mono ?_
      rintro e w2 ⟨rfl, rfl⟩
      rw [HHI.out]
      go_wp2_with fail
      go_ret
      exact ⟨HB1.out.alloc HB1.out.size _, _, rfl, by rw [HR.out]; exact LiAt.of_list' (one_list _ (Blk.new _ 3 _)) HB1.out.size⟩
    | true =>
      have HHI := Lib.hid hh
      by_cases hz : histAt H (k : Int) = 0
      · have HR := Lib.hid (show ofS S H (k : Int) = (stAt S (k : Int)).ini by unfold ofS; rw [if_neg (by rw [hs]; simp), if_neg (by rw [hh]; simp), if_neg (by rw [hz]; simp)])
        obtain ⟨iA, icap, eA, ecap, xA, xcap, rfl, rfl, rfl⟩ := hhas.slices
        have fin : ∀ w1, Below w.heap.size w w1 → IntsPost w0.heap.size (ofS S H (k : Int)) w (.returned (.slice iA (stAt S (k : Int)).ini.length icap)) w1 := fun w1 hb => ⟨hb, _, rfl, by rw [HR.out]; exact (LiAt.of_list HHAS.out.1 (fun b h => .inl h)).below0 HBZ.out hb⟩
        have FIN := Lib.hid fin
        by_cases hkl : k < H.length
        · obtain ⟨hb, ho, hcap', hv, _, hbl', hc, _⟩ := HH.out.at hkl
          injection hv with e1 e2 e3
          subst e1; subst e3
          rw [hz] at hc
          generalize (stAt S (k : Int)).ini.length = il at *
          clear hb0 hS0 hH0 hS hH hs hst hst0 hhas hh hz fin
          go_enter Tryz.func42, Tryz.ntmps42
          go_wp2_with fail
          refine HA.out.mono ?_
          rintro e w1 ⟨rfl, hb1⟩
          have HX1 := Lib.hid (HX0.out.below hb1 (by simp))
          have x0 := HX1.out.cell 0
          have x1 := HX1.out.cell 1
          simp at x0 x1
          have HB1 := Lib.hid (HB0.out.trans (hb1.mono (by simp)))
          obtain ⟨c0, c1, c2, c3, c4⟩ := HST.out.below HB1.out hbl
          have hc1 := (HB1.out.cell (p := ⟨hb, ho + k, none⟩) hbl').trans hc
          clear hb1 hc
          go_wp2_with fail
          refine (isHistS_any _ _).mono ?_
          rintro e w2 ⟨rfl, rfl⟩
          rw [HHI.out]
          go_wp2_with fail
          go_ret
          exact FIN.out _ HB1.out
        · generalize (stAt S (k : Int)).ini.length = il at *
          clear hb0 hS0 hH0 hS hH hs hst hst0 hhas hh hz fin
          go_enter Tryz.func42, Tryz.ntmps42
          go_wp2_with fail
          refine HA.out.mono ?_
          rintro e w1 ⟨rfl, hb1⟩
          have HX1 := Lib.hid (HX0.out.below hb1 (by simp))
          have x0 := HX1.out.cell 0
          have x1 := HX1.out.cell 1
          simp at x0 x1
          have HB1 := Lib.hid (HB0.out.trans (hb1.mono (by simp)))
          obtain ⟨c0, c1, c2, c3, c4⟩ := HST.out.below HB1.out hbl
          clear hb1
          go_wp2_with fail
          refine (isHistS_any _ _).mono ?_
          rintro e w2 ⟨rfl, rfl⟩
          rw [HHI.out]
          go_wp2_with fail
          go_ret
          exact FIN.out _ HB1.out
      · have HR := Lib.hid (show ofS S H (k : Int) = memb S (bitN (histAt H (k : Int))) by unfold ofS; rw [if_neg (by rw [hs]; simp), if_neg (by rw [hh]; simp), if_pos hz])
        have hkl : k < H.length := by
          rcases Nat.lt_or_ge k H.length with h | h
          · exact h
          · exact absurd (by unfold histAt; simp [List.getD, List.getElem?_eq_none h]) hz
        obtain ⟨hb, ho, hcap', hv, _, hbl', hc, hlt'⟩ := HH.out.at hkl
        injection hv with e1 e2 e3
        subst e1; subst e3
        generalize histAt H (k : Int) = h at *
        have hz2 : ((h : Int) != 0) = true := bne_iff_ne.2 (by omega)
        have HHLT := Lib.hid hlt'
        clear hb0 hS0 hH0 hS hH hs hst hst0 hhas hh hz hlt'
        go_enter Tryz.func42, Tryz.ntmps42
        go_wp2_with fail
        refine HA.out.mono ?_
        rintro e w1 ⟨rfl, hb1⟩
        have HX1 := Lib.hid (HX0.out.below hb1 (by simp))
        have x0 := HX1.out.cell 0
        have x1 := HX1.out.cell 1
        simp at x0 x1
        have HB1 := Lib.hid (HB0.out.trans (hb1.mono (by simp)))
        obtain ⟨c0, c1, c2, c3, c4⟩ := HST.out.below HB1.out hbl
        have hc1 := (HB1.out.cell (p := ⟨hb, ho + k, none⟩) hbl').trans hc
        clear hb1 hc
        go_wp2_with fail
        refine (isHistS_any _ _).mono ?_
        rintro e w2 ⟨rfl, rfl⟩
        rw [HHI.out]
        have hc2 := hc1
        have HBD : Hid (Below w.heap.size w w1.drew) := Lib.hid HB1.out.drew
        have HBX : Hid (Blk w1.drew w.heap.size 59 #[.slice (some ⟨b, o, none⟩) S.length scap, .slice (some ⟨hb, ho, none⟩) H.length hcap]) := Lib.hid HX1.out
        have HLT : Hid (hb < w1.drew.heap.size) := Lib.hid (Nat.lt_of_lt_of_le hbl' HB1.out.size)
        go_wp2_with fail
        refine anyD_start (fun W => W.cell? ⟨w.heap.size, 0, none⟩ = some (.slice (some ⟨b, o, none⟩) S.length scap) ∧ W.cell? ⟨w.heap.size, 1, none⟩ = some (.slice (some ⟨hb, ho, none⟩) H.length hcap) ∧ W.cell? ⟨hb, ho + k, none⟩ = some (.int .u32 (h : Int))) (fun i => [].contains i) (by kernel_rfl) ?_
        have HSC : Hid (w1.drew.cell? ⟨w.heap.size, 0, none⟩ = some (.slice (some ⟨b, o, none⟩) S.length scap) ∧ w1.drew.cell? ⟨w.heap.size, 1, none⟩ = some (.slice (some ⟨hb, ho, none⟩) H.length hcap) ∧ w1.drew.cell? ⟨hb, ho + k, none⟩ = some (.int .u32 (h : Int))) := Lib.hid ⟨x0, x1, hc2⟩
        refine anyD_load (i := 0) (v := .agg #[.slice (some ⟨b, o, none⟩) S.length scap, .slice (some ⟨hb, ho, none⟩) H.length hcap]) rfl (by kernel_rfl) (by kernel_rfl) (by kernel_rfl) (by kernel_rfl) (fun _ _ _ h => h) (Or.inl ⟨by kernel_rfl, fun w hS => by obtain ⟨c0, c1, c2⟩ := hS; go_simp⟩) (HSC.out) ?_
        try simp only [Act.put, List.setIfInBounds_toArray, List.set_cons_zero, List.set_cons_succ, List.getElem_toArray, List.getElem_cons_zero]
        refine anyD_take (i := 1) (v := .pointer (some ⟨w.heap.size, 1, none⟩)) rfl (by kernel_rfl) (by kernel_rfl) (by kernel_rfl) (fun _ _ _ h => h) (Or.inl ⟨by kernel_rfl, fun w => by go_simp⟩) ?_
        try simp only [Act.put, List.setIfInBounds_toArray, List.set_cons_zero, List.set_cons_succ, List.getElem_toArray, List.getElem_cons_zero, List.getElem_cons_succ]
        refine anyD_load (i := 2) (v := .slice (some ⟨hb, ho, none⟩) H.length hcap) rfl (by kernel_rfl) (by kernel_rfl) (by kernel_rfl) (by kernel_rfl) (fun _ _ _ h => h) (Or.inl ⟨by kernel_rfl, fun w hS => by obtain ⟨c0, c1, c2⟩ := hS; go_simp⟩) (HSC.out) ?_
        try simp only [Act.put, List.setIfInBounds_toArray, List.set_cons_zero, List.set_cons_succ, List.getElem_toArray, List.getElem_cons_zero, List.getElem_cons_succ]
        refine anyD_take (i := 3) (v := .int .i64 (k : Int)) rfl (by kernel_rfl) (by kernel_rfl) (by kernel_rfl) (fun _ _ _ h => h) (Or.inl ⟨by kernel_rfl, fun w => by go_simp⟩) ?_
        try simp only [Act.put, List.setIfInBounds_toArray, List.set_cons_zero, List.set_cons_succ, List.getElem_toArray, List.getElem_cons_zero, List.getElem_cons_succ]
        refine anyD_take (i := 4) (v := .pointer (some ⟨hb, ho + k, none⟩)) rfl (by kernel_rfl) (by kernel_rfl) (by kernel_rfl) (fun _ _ _ h => h) (Or.inl ⟨by kernel_rfl, fun w => by go_simp⟩) ?_
        try simp only [Act.put, List.setIfInBounds_toArray, List.set_cons_zero, List.set_cons_succ, List.getElem_toArray, List.getElem_cons_zero, List.getElem_cons_succ]
        refine anyD_load (i := 5) (v := .int .u32 (h : Int)) rfl (by kernel_rfl) (by kernel_rfl) (by kernel_rfl) (by kernel_rfl) (fun _ _ _ h => h) (Or.inl ⟨by kernel_rfl, fun w hS => by obtain ⟨c0, c1, c2⟩ := hS; go_simp⟩) (HSC.out) ?_
        try simp only [Act.put, List.setIfInBounds_toArray, List.set_cons_zero, List.set_cons_succ, List.getElem_toArray, List.getElem_cons_zero, List.getElem_cons_succ]
        refine anyD_one (i := 6) rfl rfl (by kernel_rfl) (fun K HK => ?_)
        go_simp
        refine (members_any _ _ S h _ (HS.out.below HBD.out) (by omega) HHLT.out).mono ?_
        rintro e w3 ⟨hb3, v3, rfl, ho3⟩
        have HB3 := Lib.hid hb3
        have HO3 := Lib.hid ho3
        clear hb3 ho3
        go_simp
        refine HK.out _ _ (fun _ hS => ⟨(HBX.out.below HB3.out HBX.out.lt).cell 0, (HBX.out.below HB3.out HBX.out.lt).cell 1, (HB3.out.cell (p := ⟨hb, ho + k, none⟩) HLT.out).trans hS.2.2⟩) ?_
        clear HK K
        try simp only [Act.put, List.setIfInBounds_toArray, List.set_cons_zero, List.set_cons_succ, List.getElem_toArray, List.getElem_cons_zero, List.getElem_cons_succ]
        refine anyD_take (i := 7) (v := v3) rfl (by kernel_rfl) (by kernel_rfl) (by kernel_rfl) (fun _ _ _ h => h) (Or.inl ⟨by kernel_rfl, fun w => by go_simp⟩) ?_
        try simp only [Act.put, List.setIfInBounds_toArray, List.set_cons_zero, List.set_cons_succ, List.getElem_toArray, List.getElem_cons_zero, List.getElem_cons_succ]
        refine anyD_done (by kernel_rfl) ?_
        go_wp2_with fail
        go_ret
        exact ⟨HBD.out.trans (HB3.out.mono HBD.out.size), _, rfl, by rw [HR.out]; exact LiAt.of_own HO3.out (fun b h => .inr (Nat.le_trans HBD.out.size h))⟩
end Go.Proofs.YtdkmloldajhdaaaGreatDoor
